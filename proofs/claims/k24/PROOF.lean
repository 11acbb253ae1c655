import PyProof.Rows.All
import Wide.All
import OpenK.AllK
import Wide.FinOn
import KE.SortKeyHeap
import HandS.ForMost
import HandS.SortKw
import HandS.Evl
import HandS.Deep
import HandS.IsInst
import HandS.DictComp
import HandS.Codes
import HandS.Conv
import HandS.Style
import HandS.Text
import HandS.Steps
import HandS.Defaults
import HandS.TupSets
import HandS.Zip
import HandS.Strs
import PySem.Challenge.RW_anyscribe_k24_one_way_exactly
import KE.KLam
import HandS.Nested
import HandS.NestedK
import HandS.Iter
import KE.DataMinKey
import KE.KMinKey
import KE.DataMinMax
import HandS.SortInts
import HandS.Head0
import HandS.Head1
import HandS.Head2
import HandS.HeadEnd
import HandS.HeadHook1
import HandS.HeadHook2
import HandS.HeadHook3
import HandS.HeadHook4
import HandS.HeadWalk
set_option Elab.async false
set_option linter.all false
set_option maxRecDepth 100000
set_option maxHeartbeats 4000000
set_option autoImplicit true
/-! sorted(xs, key=f), f a def of the program whose promise is pure. -/
namespace AsSort
open PySem PySem.Spec PyProof.Rows L2
open Evl (Ex)
abbrev EachIs' {α β : Type} := @PySem.W.EachIs α β

section
variable {X : Cx} {pins : List (Addr × Obj)} {σ : L2.St} {H : Hp} {s : Shared}

/-- f gives the i-th item its i-th key, from wherever it is called two calls deeper -/
def Keys (X : Cx) (f : Value) (H : Hp) (xs : List V) (kz : List PyData) : Prop :=
  ∀ (pins : List (Addr × Obj)) (σ : L2.St) (G : Hp) (z : Shared) (i : Nat) (x : V) (u : Value) (d : PyData), Inv X pins σ G z → Ex H G → xs[i]? = some x → kz[i]? = some d → RelV x u →
    wpAny (model X.prog X.w) X.A.in1.in1 (call f [u]) (EP X pins σ fun v G' => Ex G G' ∧ Dp X.K G' v d) (fun _ _ => False) z

theorem dpAll_snoc {K : PySem.W.Frag} {G : Hp} {v : V} {d : PyData} (h : Dp K G v d) : ∀ {vs : List V} {ds : List PyData}, DpAll K G vs ds → DpAll K G (vs ++ [v]) (ds ++ [d])
  | [], [], _ => .cons h .nil
  | [], _ :: _, z => nomatch z
  | _ :: _, [], z => nomatch z
  | _ :: _, _ :: _, .cons a b => .cons a (dpAll_snoc h b)

mutual
theorem dp_ex {K : PySem.W.Frag} {G G' : Hp} (e : Ex G G') : ∀ {v : V} {d : PyData}, Dp K G v d → Dp K G' v d
  | _, _, .non => .non
  | _, _, .bl b => .bl b
  | _, _, .int i => .int i
  | _, _, .str x => .str x
  | _, _, .lst a b => .lst (Evl.ex_l e a) (dpAll_ex e b)
  | _, _, .tup a b => .tup (Evl.ex_t e a) (dpAll_ex e b)
theorem dpAll_ex {K : PySem.W.Frag} {G G' : Hp} (e : Ex G G') : ∀ {vs : List V} {ds : List PyData}, DpAll K G vs ds → DpAll K G' vs ds
  | _, _, .nil => .nil
  | _, _, .cons a b => .cons (dp_ex e a) (dpAll_ex e b)
end


mutual
/-- data that cannot change: no list, no dict -/
def imm : PyData → Bool
  | .none => true
  | .bool _ => true
  | .int _ => true
  | .str _ => true
  | .tuple ds => immAll ds
  | .list _ => false
  | .dict _ => false
def immAll : List PyData → Bool
  | [] => true
  | d :: ds => imm d && immAll ds
end
theorem immAll_cons {d : PyData} {ds : List PyData} (h : immAll (d :: ds) = true) : imm d = true ∧ immAll ds = true := by
  have q : (imm d && immAll ds) = true := h
  exact Bool.and_eq_true_iff.mp q
/-- tuples stay -/
def Tu (K : PySem.W.Frag) (G G' : Hp) : Prop := ∀ a xs, SqT K G a xs → SqT K G' a xs
theorem tu_ex {K : PySem.W.Frag} {G G' : Hp} (e : Ex G G') : Tu K G G' := fun _ _ h => Evl.ex_t e h
theorem Tu.trans {K : PySem.W.Frag} {G G' G'' : Hp} (a : Tu K G G') (b : Tu K G' G'') : Tu K G G'' := fun x xs h => b x xs (a x xs h)
theorem tu_rd {K : PySem.W.Frag} {G G' : Hp} (h : ∀ a xs, Rd G a (.tup xs) → Rd G' a (.tup xs)) : Tu K G G' := fun a xs q => q.elim (fun z => .inl (h a xs z)) fun z => .inr z
/-- a list written -/
theorem tu_lst {K : PySem.W.Frag} {G : Hp} {p : Addr} {ys : List V} {o : HO} (h : G p = some (.lst ys)) : Tu K G (upd G p o) := tu_rd fun a xs q => by
  have ne : ∀ u, G a = some u → (∀ zs, u ≠ .lst zs) → a ≠ p := fun u e n z => by
    rw [z, h] at e
    exact n ys (Option.some.inj e).symm
  rcases q with q | ⟨w, q⟩
  · exact .inl (by rw [upd_ne (ne _ q fun _ z => nomatch z)]; exact q)
  · exact .inr ⟨w, by rw [upd_ne (ne _ q fun _ z => nomatch z)]; exact q⟩
mutual
theorem dp_tu {K : PySem.W.Frag} {G G' : Hp} (e : Tu K G G') : ∀ {v : V} {d : PyData}, imm d = true → Dp K G v d → Dp K G' v d
  | _, _, _, .non => .non
  | _, _, _, .bl b => .bl b
  | _, _, _, .int i => .int i
  | _, _, _, .str x => .str x
  | _, _, h, .lst _ _ => nomatch h
  | _, _, h, .tup a b => .tup (e _ _ a) (dpAll_tu e (by simpa [imm] using h) b)
theorem dpAll_tu {K : PySem.W.Frag} {G G' : Hp} (e : Tu K G G') : ∀ {vs : List V} {ds : List PyData}, immAll ds = true → DpAll K G vs ds → DpAll K G' vs ds
  | _, _, _, .nil => .nil
  | _, _, h, .cons a b => by
    have h2 := immAll_cons h
    exact .cons (dp_tu e h2.1 a) (dpAll_tu e h2.2 b)
end
theorem immAll_take : ∀ (ds : List PyData) (i : Nat), immAll ds = true → immAll (ds.take i) = true
  | _, 0, _ => rfl
  | [], _ + 1, _ => rfl
  | d :: ds, i + 1, h => by
    have h2 := immAll_cons h
    show (imm d && immAll (ds.take i)) = true
    rw [h2.1, immAll_take ds i h2.2]
    rfl
theorem immAll_get : ∀ {ds : List PyData} {i : Nat} {d : PyData}, immAll ds = true → ds[i]? = some d → imm d = true
  | [], _, _, _, e => by simp at e
  | _ :: _, 0, _, h, e => by
    have h2 := immAll_cons h
    have e2 := Option.some.inj e
    rw [← e2]
    exact h2.1
  | _ :: ds, i + 1, _, h, e => by
    have h2 := immAll_cons h
    exact immAll_get (ds := ds) (i := i) h2.2 (by simpa using e)

theorem each_of_reads {h : Heap} : ∀ {us : List Value} {ds : List PyData} {as : List Addr}, ReadsAll h us ds as → PySem.W.EachIs (fun v d => ∃ as, Reads h v d as) us ds
  | _, _, _, .nil => .nil
  | _, _, _, .cons a b => .cons ⟨_, a⟩ (each_of_reads b)
theorem each_vals : ∀ {xs : List V} {us : List Value} {kz : List PyData}, Vals xs us → kz.length = xs.length → PySem.W.EachIs (fun (u : Value) (p : V × PyData) => RelV p.1 u) us (xs.zip kz)
  | _, _, [], .nil, _ => .nil
  | _, _, _ :: _, .nil, h => by simp at h
  | _, _, [], .cons _ _, h => by simp at h
  | _, _, _ :: kz, .cons r t, h => .cons r (each_vals (kz := kz) t (by simpa using h))
theorem vals_each : ∀ {us : List Value} {ps : List (V × PyData)}, PySem.W.EachIs (fun (u : Value) (p : V × PyData) => RelV p.1 u) us ps → Vals (ps.map Prod.fst) us
  | _, _, .nil => .nil
  | _, _, .cons r t => .cons r (vals_each t)

/-- the items sorted by their keys -/
def byKey (rev : Bool) (xs : List V) (kz : List PyData) : List V := ((xs.zip kz).mergeSort (PySem.W.dataLe rev Prod.snd)).map Prod.fst

/-- list.sort(key=f) of a list at a that nobody knows; B, the heap ahead, in which a is not -/
theorem tree_run {a : Addr} {xs : List V} {its : List Value} {n : Nat} {f : Value} {rev : Bool} {kz : List PyData} {P : PySem.Fin → Shared → Prop} {E : Value → Shared → Prop} {hp : Heap}
    (I : Inv X pins σ H s) (fp : FpOk X pins H a) (ho : hp.get? a = some (seqObj "list" its.toArray n)) (old : ∀ b o, s.heap.get? b = some o → b ≠ a ∧ hp.get? b = some o) (r : Vals xs its) (hz : xs.length ≤ sizeLine)
    (hk : Keys X f H xs kz) (hl : kz.length = xs.length) (him : immAll kz = true) (hal : PySem.W.AllAlike kz) (hs : PySem.W.Sortable kz) (hu : ∀ d, d ∈ kz → X.A.in1.in1.units + d.depth < cLine)
    (q : ∀ s' G, Inv X pins σ G s' → Ex (upd H a (.lst (byKey rev xs kz))) G → s'.os = s.os → P (.done (.ret .none)) s') :
    wpAny (model X.prog X.w) X.A.in1.in1 (ksk_tree a f rev) P E { s with heap := hp } := by
  have hlen : its.length = xs.length := r.length.symm
  have hzi : its.length ≤ sizeLine := by omega
  obtain ⟨e1, ho1⟩ : ∃ e1, (hp.update a (Obj.mapSeq fun _ => (#[] : Array Value))).get? a = some (seqObj "list" #[] e1) := ⟨_, get?_update_seq ho fun _ => #[]⟩
  obtain ⟨hA, ehA⟩ : ∃ hA, hA = hp.update a (Obj.mapSeq fun _ => (#[] : Array Value)) := ⟨_, rfl⟩
  rw [← ehA] at ho1
  have oldA : ∀ b o, s.heap.get? b = some o → b ≠ a ∧ hA.get? b = some o := fun b o e => by
    obtain ⟨h1, h2⟩ := old b o e
    exact ⟨h1, by rw [ehA]; exact (Heap.get?_update_ne _ _ _ _ h1).trans h2⟩
  unfold ksk_tree
  refine wpAny_bind (listItems_at ho rfl ?_)
  refine wpAny_bind (listUpdate_at ho rfl ?_ (by rw [List.size_toArray]; exact hzi) (Nat.zero_le _))
  rw [← ehA]
  refine wpAny_bind (seqEpoch_at ho1 rfl ?_)
  refine wpAny_bind (wpAny_newTuple ?_ (by show its.length ≤ _; exact hzi))
  refine wpAny_bind (wpAny_newList ?_ (Nat.zero_le _))
  refine wpAny_holding ?_
  obtain ⟨hB, ehB⟩ : ∃ hB, hB = hA.push (seqObj "tuple" its.toArray 0) := ⟨_, rfl⟩
  have oldB : ∀ b o, s.heap.get? b = some o → hB.get? b = some o := fun b o e => by
    rw [ehB]
    exact Heap.get?_push_of_some _ (oldA b o e).2
  have hoB : hB.get? a = some (seqObj "list" #[] e1) := by
    rw [ehB]
    exact Heap.get?_push_of_some _ ho1
  have hBz : hB.objs.size = hA.objs.size + 1 := by rw [ehB, size_push']
  have ha : a < hB.objs.size := Heap.lt_size hoB
  -- the store of keys stands at kS
  obtain ⟨kS, ekS⟩ : ∃ kS, kS = hB.objs.size := ⟨_, rfl⟩
  have IB : Inv X pins σ H { s with heap := hB } := I.kept oldB
  have nkS : H kS = none := IB.hok.fresh (by rw [ekS]; exact Nat.le_refl _)
  have hka : kS ≠ a := by rw [ekS]; exact Nat.ne_of_gt ha
  have fpS : FpOk X pins H kS := IB.fpOk (by rw [ekS]; exact Nat.le_refl _) nkS
  have IC : Inv X pins σ (upd H kS (.lst [])) { s with heap := hB.push (seqObj "list" #[] 0) } :=
    IB.laid (a := kS) (o := .lst []) (t' := s.toks) (fun b o e => Heap.get?_push_of_some _ e) (by rw [ekS]; exact Nat.le_refl _) ⟨Nat.zero_le _, [], 0, .nil, by rw [ekS]; exact Heap.get?_push_size _ rfl⟩
  have pin1 : ∀ p ∈ pins ++ [(a, (seqObj "list" #[] e1 : Obj))], (hB.push (seqObj "list" #[] 0)).get? p.1 = some p.2 ∧ (upd H kS (.lst [])) p.1 = none ∧ p.1 ≠ X.env.locals ∧ p.1 ∉ X.fs ∧ ∀ v, p.2.data ≠ .cell v := fun p hpm => by
    rcases List.mem_append.mp hpm with z | z
    · exact IC.pin p (List.mem_append_right _ z)
    · rw [List.mem_singleton.mp z]
      refine ⟨Heap.get?_push_of_some _ hoB, ?_, fp.2.1, fp.2.2.1, fun v e => nomatch e⟩
      rw [upd_ne hka.symm]
      exact fp.1
  have ID := IC.pins_of pin1
  rw [ehB] at ID ekS
  rw [← ekS]
  show wpAny (model X.prog X.w) X.A.in1.in1 (ksk_rest a f rev its.toArray e1 (.ref kS)) P E { s with heap := (hA.push (seqObj "tuple" its.toArray 0)).push (seqObj "list" #[] 0) }
  obtain ⟨z0, ez0⟩ : ∃ z0 : Shared, z0 = { s with heap := (hA.push (seqObj "tuple" its.toArray 0)).push (seqObj "list" #[] 0) } := ⟨_, rfl⟩
  rw [← ez0] at ID ⊢
  unfold ksk_rest
  refine wpAny_bind (wpAny_rule ?_)
  first
    | rw [List.forIn_toArray]
    | (rw [← Array.forIn_toList]; simp only [List.toList_toArray])
    | rw [← Array.forIn_toList]
  refine wpAny_bind (ksk_fold (fun i z => ∃ G ks, Inv X (pins ++ [(a, (seqObj "list" #[] e1 : Obj))]) σ G z ∧ Ex H G ∧ G kS = some (.lst ks) ∧ DpAll X.K G ks (kz.take i) ∧ ks.length = i) its 0 z0
    ⟨_, [], ID, Ex.new nkS, upd_same, by rw [List.take_zero]; exact .nil, rfl⟩ ?step ?done)
  case step =>
    rintro j u z hu1 ⟨G, ks, J, eG, hG, hd, hkl⟩
    simp only [Nat.zero_add] at hd hkl ⊢
    have hj : j < its.length := (List.getElem?_eq_some_iff.mp hu1).1
    have hjx : j < xs.length := by omega
    obtain ⟨d, hdj⟩ : ∃ d, kz[j]? = some d := ⟨_, List.getElem?_eq_getElem (by omega)⟩
    have hx : xs[j]? = some xs[j] := List.getElem?_eq_getElem hjx
    obtain ⟨u', hu', ru⟩ := r.get hx
    rw [hu1] at hu'
    cases hu'
    refine wpAny_bind (wpAny_attempt (wpAny_mono (hk _ _ G z j _ u d J eG hx hdj ru) (fun v z' he => ?_) fun _ _ hF => hF.elim))
    obtain ⟨w', G', J', rw', e', hw⟩ := he
    try dsimp only
    have hG' : G' kS = some (.lst ks) := e' _ _ hG
    obtain ⟨kvs, m, rk, ok, lk⟩ := J'.lst hG'
    have hks : kvs.length = ks.length := rk.length.symm
    refine wpAny_bind (listUpdate_at ok rfl ?_ (by rw [List.size_toArray]; omega) (by rw [Array.size_push, List.size_toArray]; omega))
    refine wpAny_pure ⟨rfl, upd G' kS (.lst (ks ++ [w'])), ks ++ [w'], ?_, ?_, upd_same, ?_, ?_⟩
    · exact J'.lset (t' := z'.toks) (its := kvs) (its' := kvs ++ [v]) hG' ok (by simp) (rk.append (.cons rw' .nil)) (by rw [List.length_append, List.length_singleton]; omega)
    · exact Ex.mut (eG.trans e') nkS
    · have ek : kz.take (j + 1) = kz.take j ++ [d] := by rw [List.take_add_one, hdj]; simp
      rw [ek]
      exact dpAll_snoc (dp_tu (tu_lst hG') (immAll_get him hdj) hw) (dpAll_tu (tu_lst hG') (immAll_take kz j him) (dpAll_ex e' hd))
    · rw [List.length_append, List.length_singleton, hkl]
  case done =>
    rintro z ⟨G, ks, J, eG, hG, hd, hkl⟩
    have hd' : DpAll X.K G ks kz := by
      have e3 : kz.take (0 + its.length) = kz := List.take_of_length_le (by omega)
      rw [e3] at hd
      exact hd
    obtain ⟨kvs, m, rk, ok, lk⟩ := J.lst hG
    have hks : kvs.length = ks.length := rk.length.symm
    obtain ⟨as, hr⟩ := Dp.readsAll J kz ks kvs hd' rk
    have hea := each_of_reads hr
    have oa : z.heap.get? a = some (seqObj "list" #[] e1) := (J.pin (a, (seqObj "list" #[] e1 : Obj)) (List.mem_append_right _ (List.mem_append_right _ (List.mem_singleton.mpr rfl)))).1
    have na : G a = none := (J.pin (a, (seqObj "list" #[] e1 : Obj)) (List.mem_append_right _ (List.mem_append_right _ (List.mem_singleton.mpr rfl)))).2.1
    refine wpAny_bind (listItems_at ok rfl ?_)
    refine PySem.W.keyH_end (κ := PySem.W.dataKind z.heap kz) (h₁ := PySem.W.hideAll z.heap [kS]) (fun b o _ e => PySem.W.of_hideAll [kS] e) (PySem.W.hideAll_none [kS] (List.mem_singleton.mpr rfl)) ok oa hka
      (PySem.W.SortsAt.data hea hal hs hu) (by rw [List.size_toArray]; omega) hzi fun h' tk c kb oh => ?_
    have ko : PySem.W.KeyedOut rev ((xs.zip kz).map Prod.snd) its (PySem.W.sortVals (PySem.W.dataKind z.heap kz) rev kvs.toArray.toList its) := by
      have e4 : (xs.zip kz).map Prod.snd = kz := List.map_snd_zip (by omega)
      rw [e4]
      exact ⟨z.heap, kvs, hal, rfl, hea⟩
    have vo := vals_each (PySem.W.keyedOut_each Prod.snd ko (each_vals r hl))
    have kb2 : ∀ b o, b ≠ a → b ≠ kS → z.heap.get? b = some o → h'.get? b = some o := fun b o h1 h2 e => kb b o h1 (PySem.W.hideAll_get [kS] e fun q => h2 (List.mem_singleton.mp q))
    have J2 : Inv X pins σ G z := J.unpinned
    have hyl : (byKey rev xs kz).length ≤ sizeLine := by
      unfold byKey
      rw [List.length_map, List.length_mergeSort, List.length_zip]
      omega
    have noL : ∀ b u, G b = some u → (∀ zs, u ≠ .lst zs) → b ≠ kS := fun b u e n w => by
      rw [w, hG] at e
      exact n ks (Option.some.inj e).symm
    have noA : ∀ b u, G b = some u → b ≠ a := fun b u e w => by
      rw [w, na] at e
      cases e
    obtain ⟨G2, eG2⟩ : ∃ G2 : Hp, G2 = fun b => if b = kS then none else upd G a (.lst (byKey rev xs kz)) b := ⟨_, rfl⟩
    have gk : G2 kS = none := by rw [eG2]; exact if_pos rfl
    have ga : G2 a = some (.lst (byKey rev xs kz)) := by
      rw [eG2]
      show (if a = kS then none else upd G a (.lst (byKey rev xs kz)) a) = _
      rw [if_neg hka.symm, upd_same]
    have gb : ∀ b, b ≠ kS → b ≠ a → G2 b = G b := fun b h1 h2 => by
      rw [eG2]
      show (if b = kS then none else upd G a (.lst (byKey rev xs kz)) b) = _
      rw [if_neg h1, upd_ne h2]
    have gi : ∀ b u, G2 b = some u → b ≠ kS := fun b u e w => by
      rw [w, gk] at e
      cases e
    obtain ⟨zh, zg, zd, zt, zo⟩ := z
    have ch : ∀ b ∈ [kS, a], (b ∈ X.ex ∨ X.s_0.heap.objs.size ≤ b) ∧ b ≠ X.env.locals ∧ (∀ x c, X.env.cells.lookup x = some c → c ≠ b) ∧ ∀ p ∈ X.pn ++ pins, p.1 ≠ b := fun b hb => by
      rcases List.mem_cons.mp hb with e | hb
      · rw [e]; exact ⟨fpS.2.2.2.1, fpS.2.1, fpS.2.2.2.2.1, fpS.2.2.2.2.2⟩
      · rw [List.mem_singleton.mp hb]; exact ⟨fp.2.2.2.1, fp.2.1, fp.2.2.2.2.1, fp.2.2.2.2.2⟩
    have nc : ∀ b, b ∉ [kS, a] → b ≠ a ∧ b ≠ kS := fun b h => ⟨fun e => h (by simp [e]), fun e => h (by simp [e])⟩
    have fin : Inv X pins σ G2 ⟨h', zg, zd, tk, zo⟩ := J2.step (h' := h') (H' := G2) (g' := zg) (d' := zd) (t' := tk) (ch := [kS, a]) ch
      (fun b o _ _ hc e _ => kb2 b o (nc b hc).1 (nc b hc).2 e) (fun b o _ _ hc e _ => ⟨o.slots, kb2 b o (nc b hc).1 (nc b hc).2 e⟩) (fun b o hc _ n => by rw [gb b (nc b hc).2 (nc b hc).1]; exact n)
      (fun b o hc e => ⟨o, kb2 b o (nc b hc).1 (nc b hc).2 e⟩) (fun b zs e => by rw [gb b (noL b _ e fun _ w => nomatch w) (noA b _ e)]; exact e) (fun b o u e => by rw [gb b (noL b _ e fun _ w => nomatch w) (noA b _ e)]; exact e)
      (fun b ps e => ⟨#[], by rw [gb b (noL b _ e fun _ w => nomatch w) (noA b _ e), e]; simp⟩) (fun mm hm => by
        obtain ⟨o, es, ep, ho', r'⟩ := hm
        exact ⟨o, es, ep, kb2 _ o fp.2.1.symm fpS.2.1.symm ho', r'⟩)
      (fun b u e => by
        by_cases hb : b = a
        · rw [hb, ga] at e
          cases e
          rw [hb]
          exact ⟨hyl, _, c, vo, oh⟩
        · have hbk := gi b u e
          rw [gb b hbk hb] at e
          have nk : ∀ c v, G c = some v → (∀ zs, v ≠ .lst zs) → G2 c = some v := fun c v q n => by rw [gb c (noL c v q n) (noA c v q)]; exact q
          refine (J2.hok b u e).stay (fun c v hc q => ?_) (fun c q => nk c _ q fun _ w => nomatch w) fun c zs q => nk c _ q fun _ w => nomatch w
          rcases hc with rfl | hc
          · exact kb2 c v hb hbk q
          · exact kb2 c v (noA c _ hc) (noL c _ hc fun _ w => nomatch w) q) J2.bare
    refine q _ G2 fin (fun b o e => ?_) (J2.os.trans I.os.symm)
    by_cases hb : b = a
    · rw [hb, upd_same] at e
      rw [hb, ga]
      exact e
    · rw [upd_ne hb] at e
      rw [gb b (fun w => by rw [w, nkS] at e; cases e) hb]
      exact eG b o e
end

section
variable {prog : Program} {w : World} {A : Around} {E : Value → Shared → Prop} {s : Shared}
/-- a list or a tuple, laid out as a new list -/
theorem collect_sq {l : Addr} {vs : List Value} {T : String} {o : Obj} {n : Nat} {Q : List Value → Shared → Prop} (ho : s.heap.get? l = some o) (hc : o.cls = .type T) (hT : T = "list" ∨ T = "tuple") (hd : o.data = .seq vs.toArray n) (hsz : vs.length ≤ sizeLine)
    (h : Q vs { s with heap := (s.heap.push (seqObj "list" #[] 0)).update s.heap.objs.size (Obj.mapSeq (· ++ vs.toArray)) }) : wpAny (model prog w) A (collect (.ref l)) Q E s := by
  unfold collect
  refine wpAny_bind (wpAny_runValue (codeAny_builtin entry_proto_collect' ?_))
  show wpAny _ _ (do again (.builtin "list.__iadd__" ⟨[← newList [], .ref l], []⟩)) _ _ s
  refine wpAny_bind (wpAny_newList (wpAny_pure ⟨Code.quiet_builtin _ (by decide +kernel), codeAny_builtin entry_list_iadd' ?_⟩))
  have fresh : (s.heap.push (seqObj "list" #[] 0)).get? s.heap.objs.size = some (seqObj "list" #[] 0) := Heap.get?_push_size _ rfl
  have ho' : (s.heap.push (seqObj "list" #[] 0)).get? l = some o := Heap.get?_push_of_some _ ho
  show wpAny _ _ (Builtin.List.listExtendWith (.ref s.heap.objs.size) (.ref l) (.ref s.heap.objs.size)) _ _ { s with heap := s.heap.push (seqObj "list" #[] 0) }
  unfold Builtin.List.listExtendWith
  refine wpAny_bind (wpAny_typeOf (T := T) ⟨o, ho', hc⟩ ?_)
  have hb : (Builtin.List.listSameRef (.ref s.heap.objs.size) (.ref l) || Value.type T == Value.type "list" || Value.type T == Value.type "tuple") = true := by
    rcases hT with e | e <;> rw [e]
    · rw [show (Value.type "list" == Value.type "list") = true from rfl, Bool.or_true, Bool.true_or]
    · rw [show (Value.type "tuple" == Value.type "tuple") = true from rfl, Bool.or_true]
  rw [if_pos hb]
  refine wpAny_bind (listItems_at ho' hd ?_)
  refine wpAny_bind (listItems_at fresh rfl ?_)
  rw [if_neg (by simp)]
  refine wpAny_bind (listUpdate_at fresh rfl ?_ (Nat.zero_le _) (by show (#[] ++ vs.toArray).size ≤ sizeLine + 1; simp only [Array.size_append, List.size_toArray, List.length_nil]; omega))
  refine wpAny_pure ?_
  show wpAny (model prog w) A (load s.heap.objs.size >>= _) Q E _
  refine wpAny_bind (wpAny_load (get?_update_seq fresh _) ?_)
  show wpAny _ _ (pure ((#[] : Array Value) ++ vs.toArray).toList) Q E _
  rw [show ((#[] : Array Value) ++ vs.toArray).toList = vs by simp]
  exact wpAny_pure h
/-- sorted of either is list.sort of a new list -/
theorem sorted_sq {l : Addr} {vs : List Value} {T : String} {o : Obj} {n : Nat} {kw : List (Str × Value)} {Q : Value → Shared → Prop} (ho : s.heap.get? l = some o) (hc : o.cls = .type T) (hT : T = "list" ∨ T = "tuple") (hd : o.data = .seq vs.toArray n) (hsz : vs.length ≤ sizeLine)
    (ha1 : argsOk "sorted" ⟨[.ref l], kw⟩) (ha2 : ∀ x, argsOk "list.sort" ⟨[.ref x], kw⟩)
    (body : ∀ E' : Value → Shared → Prop, wpAny (model prog w) A.in1.in1 (Builtin.«list.sort» ⟨[.ref (s.heap.objs.size + 1)], kw⟩) (fun f s' => f = .done (.ret .none) ∧ Q (.ref (s.heap.objs.size + 1)) s') E' { s with heap := PySem.W.copyHeap s.heap vs }) :
    wpAny (model prog w) A (call (.builtin "sorted") [.ref l] kw) Q E s := by
  refine call_function_entry_kw kind_sorted plain_sorted entry_sorted ha1 ?_
  unfold Builtin.«sorted»
  refine wpAny_bind (m := checkCount "sorted" 1 1 _) (wpAny_pure (wpAny_bind (collect_sq ho hc hT hd hsz (wpAny_bind (wpAny_newList ?_ hsz)))))
  have e1 : ((s.heap.push (seqObj "list" #[] 0)).update s.heap.objs.size (Obj.mapSeq (· ++ vs.toArray))).objs.size = s.heap.objs.size + 1 := by rw [Heap.size_update, size_push']
  rw [e1]
  refine wpAny_bind (wpAny_holding (wpAny_call_entry_kw slot_list_sort ⟨_, PySem.W.copyHeap_at s.heap vs, rfl⟩ entry_list_sort (wpAny_mono (body _) (fun f s' hf => ?_) fun _ _ e => e) (ha2 _)))
  obtain ⟨rfl, hq⟩ := hf
  exact ⟨_, rfl, wpAny_pure ⟨_, rfl, hq⟩⟩
end

section
variable {X : Cx}
/-- sorted(xs, ..) by keys -/
theorem sorted_run {pins : List (Addr × Obj)} {σ : L2.St} {H : Hp} {s : Shared} {l : Addr} {xs : List V} {f : Value} {rev : Bool} {kz : List PyData} {kw : List (Str × Value)} {Q : VK} (I : Inv X pins σ H s)
    (hs : SqL X.K H l xs ∨ SqT X.K H l xs) (hk : Keys X f H xs kz) (hl : kz.length = xs.length) (him : immAll kz = true) (hal : PySem.W.AllAlike kz) (hso : PySem.W.Sortable kz) (hu : ∀ d, d ∈ kz → X.A.in1.in1.units + d.depth < cLine)
    (ha1 : argsOk "sorted" ⟨[.ref l], kw⟩) (ha2 : ∀ x, argsOk "list.sort" ⟨[.ref x], kw⟩) (ht : ∀ x, Builtin.«list.sort» ⟨[.ref x], kw⟩ = ksk_tree x f rev)
    (q : ∀ p G, H p = none → Ex (upd H p (.lst (byKey rev xs kz))) G → Q (.ref p) G) : wpAny (model X.prog X.w) X.A (call (.builtin "sorted") [.ref l] kw) (EP X pins σ Q) X.xe s := by
  have go : ∀ (vs : List Value) (T : String) (o : Obj) (n : Nat), Vals xs vs → s.heap.get? l = some o → o.cls = .type T → (T = "list" ∨ T = "tuple") → o.data = .seq vs.toArray n → xs.length ≤ sizeLine →
      wpAny (model X.prog X.w) X.A (call (.builtin "sorted") [.ref l] kw) (EP X pins σ Q) X.xe s := fun vs T o n r ho hc hT hd hz => by
    refine sorted_sq ho hc hT hd (by rw [← r.length]; exact hz) ha1 ha2 fun E' => ?_
    rw [ht]
    have nH : H (s.heap.objs.size + 1) = none := I.hok.fresh (Nat.le_succ _)
    refine tree_run I (I.fpOk (Nat.le_succ _) nH) (PySem.W.copyHeap_at s.heap vs) (fun b o e => ⟨Nat.ne_of_lt (Nat.lt_succ_of_lt (Heap.lt_size e)), PySem.W.copyHeap_old e⟩) r hz hk hl him hal hso hu fun s' G J e _ => ⟨rfl, ?_⟩
    exact ⟨.ref _, G, J, rfl, q _ G nH e⟩
  rcases hs with hs | hs
  · obtain ⟨its, rv, ⟨o, n, ho, hc, _, hd⟩, hz⟩ := I.list hs
    exact go its "list" o n rv ho hc (.inl rfl) hd hz
  · obtain ⟨its, rv, ⟨o, ho, hc, n, hd⟩, hz⟩ := I.tuple hs
    exact go its "tuple" o n rv ho hc (.inr rfl) hd hz

/-- a pure promise: data in, data out, nothing that was known changes -/
def spP (K : PySem.W.Frag) (pre : List PyData → Prop) (g : List PyData → PyData) : Sp := fun vs H Q _ => ∃ ds, DpAll K H vs ds ∧ pre ds ∧ ∀ v H', Ex H H' → Dp K H' v (g ds) → Q v H'

theorem dpAll_get {K : PySem.W.Frag} {G : Hp} : ∀ {vs : List V} {ds : List PyData} {i : Nat} {v : V} {d : PyData}, DpAll K G vs ds → vs[i]? = some v → ds[i]? = some d → Dp K G v d
  | _, _, _, _, _, .nil, h, _ => by simp at h
  | _, _, 0, _, _, .cons a _, h, h2 => by
    have e1 := Option.some.inj h
    have e2 := Option.some.inj h2
    rw [← e1, ← e2]
    exact a
  | _, _, i + 1, _, _, .cons _ b, h, h2 => dpAll_get (i := i) b (by simpa using h) (by simpa using h2)
theorem dpAll_len {K : PySem.W.Frag} {G : Hp} : ∀ {vs : List V} {ds : List PyData}, DpAll K G vs ds → vs.length = ds.length
  | _, _, .nil => rfl
  | _, _, .cons _ b => congrArg Nat.succ (dpAll_len b)

theorem keys_of {k : Nat} {f : Addr} {fd : FuncData} {x : Str} {pre : List PyData → Prop} {g : List PyData → PyData} {H : Hp} {xs : List V} {ds : List PyData} (F : FnOk X.prog X.w X.K X.mg X.base CX0 k f fd [x] (spP X.K pre g)) (hr : Room (k + 2) X.A)
    (hb : Binds X.K fd [x] []) (hd : DpAll X.K H xs ds) (hp : ∀ d ∈ ds, pre [d]) : Keys X (.ref f) H xs (ds.map fun d => g [d]) := by
  intro pins σ G z i v u d I e hx hk ru
  rw [List.getElem?_map] at hk
  cases hi : ds[i]? with
  | none => rw [hi] at hk; cases hk
  | some d0 =>
    rw [hi] at hk
    have ed : g [d0] = d := Option.some.inj hk
    have hv : Dp X.K G v d0 := dp_ex e (dpAll_get hd hx hi)
    have E0' : Env0 X.prog X.w X.K X.mg X.base X.A.in1.in1 X.stack z G := I.env0.in1.in1
    refine wpAny_call (codeAny_mono (F.run X.A.in1.in1 X.stack z G ⟨[u], []⟩ [u] [v] (fun v G' => Ex G G' ∧ Dp X.K G' v d) E0 hr.in1.in1 E0' (hb z [u] I.kIn rfl) (.cons ru .nil) ⟨[d0], .cons hv .nil, hp d0 (List.mem_of_getElem? hi), fun w' G' e' h' => ⟨e', by rw [← ed]; exact h'⟩⟩) fun r s' hq => ?_)
    cases r with
    | error e => exact hq.elim
    | ok fl =>
      cases fl with
      | ret u => exact I.after hq
      | next => exact False.elim hq
      | brk => exact False.elim hq
      | cont => exact False.elim hq

/-- the data sorted by their keys -/
theorem byKey_dp {K : PySem.W.Frag} {G : Hp} {rev : Bool} {xs : List V} {ds : List PyData} (g : PyData → PyData) (h : DpAll K G xs ds) : DpAll K G (byKey rev xs (ds.map g)) (ds.mergeSort (PySem.W.dataLe rev g)) := by
  have each : ∀ {xs : List V} {ds : List PyData}, DpAll K G xs ds → PySem.W.EachIs (fun (p : V × PyData) (d : PyData) => Dp K G p.1 d ∧ p.2 = g d) (xs.zip (ds.map g)) ds := by
    intro xs ds h
    induction h using DpAll.rec (motive_1 := fun _ _ _ => True) with
    | non => trivial
    | bl => trivial
    | int => trivial
    | str => trivial
    | lst => trivial
    | tup => trivial
    | nil => exact .nil
    | cons a _ _ ih => exact .cons ⟨a, rfl⟩ ih
  have back : ∀ {ps : List (V × PyData)} {ds : List PyData}, PySem.W.EachIs (fun (p : V × PyData) (d : PyData) => Dp K G p.1 d ∧ p.2 = g d) ps ds → DpAll K G (ps.map Prod.fst) ds := by
    intro ps ds h
    induction h with
    | nil => exact .nil
    | cons a _ ih => exact .cons a.1 ih
  refine back (PySem.W.sort_each (each h) fun p hp q hq => ?_)
  have e1 := ((each h).zip p hp).2
  have e2 := ((each h).zip q hq).2
  show PySem.W.dataLe rev Prod.snd p.1 q.1 = PySem.W.dataLe rev g p.2 q.2
  rw [PySem.W.dataLe_eq, PySem.W.dataLe_eq]
  show cond rev (!PySem.W.dataLt p.1.2 q.1.2) (!PySem.W.dataLt q.1.2 p.1.2) = cond rev (!PySem.W.dataLt (g p.2) (g q.2)) (!PySem.W.dataLt (g q.2) (g p.2))
  rw [e1, e2]

def sortD (g : PyData → PyData) (ds : List PyData) : List PyData := ds.mergeSort (PySem.W.dataLe false g)
/-- sorted(xs, key=f), f a def -/
def rSortKey (K : PySem.W.Frag) (f : Addr) (pre : List PyData → Prop) (g : List PyData → PyData) : List V → List V → Hp → VK → Prop := fun vs zs H Q => ∃ (l : Addr) (xs : List V) (ds : List PyData), vs = [.ref l] ∧ zs = [.ref f] ∧ (SqL K H l xs ∨ SqT K H l xs) ∧ DpAll K H xs ds ∧ (∀ d ∈ ds, pre [d]) ∧
  PySem.W.AllAlike (ds.map fun d => g [d]) ∧ PySem.W.Sortable (ds.map fun d => g [d]) ∧ immAll (ds.map fun d => g [d]) = true ∧ (∀ d ∈ ds, (g [d]).depth ≤ 50) ∧
  ∀ p ys G, H p = none → Ex H G → G p = some (.lst ys) → DpAll K G ys (sortD (fun d => g [d]) ds) → Q (.ref p) G
theorem cr_sortKey {k : Nat} {f : Addr} {fd : FuncData} {x : Str} {pre : List PyData → Prop} {g : List PyData → PyData} (F : FnOk X.prog X.w X.K X.mg X.base CX0 k f fd [x] (spP X.K pre g)) (hr : Room (k + 2) X.A) (hb : Binds X.K fd [x] []) :
    CallRK X (.builtin "sorted") [Str.ofString "key"] (rSortKey X.K f pre g) := by
  intro pins s σ H vs zs us ws Q I r rz h
  obtain ⟨l, xs, ds, rfl, rfl, hs, hd, hp, hal, hso, him, hdep, q⟩ := h
  obtain rfl := Vals.ref1 r
  obtain ⟨w1, rfl, e1⟩ := vals1 rz
  obtain rfl : w1 = Value.ref f := e1
  refine sorted_run (rev := false) I hs (keys_of F hr hb hd hp) (by rw [List.length_map, dpAll_len hd]) him hal hso (fun d hm => ?_) (PyProof.Rows.ksk_s1 _ _) (fun _ => PyProof.Rows.ksk_l1 _ _) (fun a => PyProof.Rows.ksk_t1 f a) fun p G np e => ?_
  · obtain ⟨d0, h0, rfl⟩ := List.mem_map.mp hm
    have h1 := hdep d0 h0
    have h2 := hr.un
    show X.A.units + 1 + 1 + (g [d0]).depth < cLine
    omega
  · exact q p _ G np ((Ex.new np).trans e) (e _ _ upd_same) (dpAll_ex ((Ex.new np).trans e) (byKey_dp _ hd))
end
end AsSort

set_option maxHeartbeats 4000000
set_option autoImplicit false
/-! what a reading gives, told as data. -/
namespace AsKit
open PySem PySem.Spec PyProof.Rows L2 AsSort
open Evl (Ex Ev EvT EvA)

def EvD (K : PySem.W.Frag) (te : TE) (σ : L2.St) (H : Hp) (d : PyData) : Prop := ∀ H1, Ex H H1 → ∀ Q : VK, (∀ v H2, Ex H1 H2 → Dp K H2 v d → Q v H2) → te σ H1 Q
def EvDs (K : PySem.W.Frag) (ta : TA) (σ : L2.St) (H : Hp) (ds : List PyData) : Prop := ∀ H1, Ex H H1 → ∀ Q : List V → Hp → Prop, (∀ vs H2, Ex H1 H2 → DpAll K H2 vs ds → Q vs H2) → ta σ H1 Q
/-- slot i holds d -/
def At (K : PySem.W.Frag) (σ : L2.St) (H : Hp) (i : Nat) (d : PyData) : Prop := ∃ v, σ[i]? = some (some v) ∧ Dp K H v d

section
variable {K : PySem.W.Frag} {σ : L2.St} {H H' : Hp} {ta tb te : TE} {t u : TT} {d e : PyData} {ds : List PyData}
theorem At.mono {i : Nat} (x : Ex H H') (h : At K σ H i d) : At K σ H' i d := let ⟨v, a, b⟩ := h; ⟨v, a, dp_ex x b⟩
theorem EvD.mono (x : Ex H H') (h : EvD K te σ H d) : EvD K te σ H' d := fun H1 a Q q => h H1 (x.trans a) Q q
theorem EvDs.mono {ta : TA} (x : Ex H H') (h : EvDs K ta σ H ds) : EvDs K ta σ H' ds := fun H1 a Q q => h H1 (x.trans a) Q q
theorem d_var {i : Nat} (h : At K σ H i d) : EvD K (tVar i) σ H d := fun H1 a _ q => let ⟨v, h1, h2⟩ := h; ⟨v, h1, q v H1 (Ex.refl H1) (dp_ex a h2)⟩
theorem dp_sc {v : V} : ∀ {d : PyData}, (∀ ds, d ≠ .list ds) → (∀ ds, d ≠ .tuple ds) → Dp K H v d → ∀ G, Dp K G v d
  | _, _, _, .non, _ => .non
  | _, _, _, .bl b, _ => .bl b
  | _, _, _, .int i, _ => .int i
  | _, _, _, .str x, _ => .str x
  | _, a, _, .lst _ _, _ => (a _ rfl).elim
  | _, _, b, .tup _ _, _ => (b _ rfl).elim
theorem d_int {i : Int} : EvD K (tC (.int i)) σ H (.int i) := fun H1 _ _ q => q _ H1 (Ex.refl H1) (.int i)
theorem d_str {x : Str} : EvD K (tC (.str x)) σ H (.str x) := fun H1 _ _ q => q _ H1 (Ex.refl H1) (.str x)
theorem d_bl {b : Bool} : EvD K (tC (.bl b)) σ H (.bool b) := fun H1 _ _ q => q _ H1 (Ex.refl H1) (.bl b)
theorem ev_int {i : Int} (h : EvD K te σ H (.int i)) : Ev te σ H (.int i) := fun H1 a Q q => h H1 a Q fun v H2 x hd => by cases hd; exact q H2 x
theorem ev_str {x : Str} (h : EvD K te σ H (.str x)) : Ev te σ H (.str x) := fun H1 a Q q => h H1 a Q fun v H2 y hd => by cases hd; exact q H2 y
theorem ev_bl {b : Bool} (h : EvD K te σ H (.bool b)) : Ev te σ H (.bl b) := fun H1 a Q q => h H1 a Q fun v H2 y hd => by cases hd; exact q H2 y
theorem d_ofI {i : Int} (h : Ev te σ H (.int i)) : EvD K te σ H (.int i) := fun H1 a Q q => h H1 a Q fun H2 x => q _ H2 x (.int i)
theorem d_ofS {x : Str} (h : Ev te σ H (.str x)) : EvD K te σ H (.str x) := fun H1 a Q q => h H1 a Q fun H2 y => q _ H2 y (.str x)
theorem d_ofB {b : Bool} (h : Ev te σ H (.bl b)) : EvD K te σ H (.bool b) := fun H1 a Q q => h H1 a Q fun H2 y => q _ H2 y (.bl b)
theorem ds_nil : EvDs K tNil σ H [] := fun H1 _ _ q => q [] H1 (Ex.refl H1) .nil
theorem ds_cons {tr : TA} (h : EvD K te σ H d) (hr : EvDs K tr σ H ds) : EvDs K (tCons te tr) σ H (d :: ds) := fun H1 a Q q =>
  h H1 a _ fun v H2 x hd => hr H2 (a.trans x) _ fun vs H3 y hs => q _ H3 (x.trans y) (.cons (dp_ex y hd) hs)
theorem ds_ev {ta : TA} {i : Int} (h : EvDs K ta σ H [.int i]) : EvA ta σ H [.int i] := fun H1 a Q q => h H1 a Q fun vs H2 x hd => by
  cases hd with
  | cons a b =>
    cases a
    cases b
    exact q H2 x
theorem ds_ev2 {ta : TA} {i j : Int} (h : EvDs K ta σ H [.int i, .int j]) : EvA ta σ H [.int i, .int j] := fun H1 a Q q => h H1 a Q fun vs H2 x hd => by
  cases hd with
  | cons a b =>
    cases a
    cases b with
    | cons a b =>
      cases a
      cases b
      exact q H2 x
theorem d_tup {ta : TA} (h : EvDs K ta σ H ds) (hl : ds.length ≤ 100000) : EvD K (tTup ta) σ H (.tuple ds) := fun H1 a Q q =>
  h H1 a _ fun vs H2 x hd => ⟨Evl.sz_of (by rw [dpAll_len hd]; exact hl), fun p hp => q _ _ (x.trans (Ex.new hp)) (.tup (Evl.st_of upd_same) (dpAll_ex (Ex.new hp) hd))⟩
theorem d_lst {ta : TA} (h : EvDs K ta σ H ds) (hl : ds.length ≤ 100000) : EvD K (tLst ta) σ H (.list ds) := fun H1 a Q q =>
  h H1 a _ fun vs H2 x hd => ⟨Evl.sz_of (by rw [dpAll_len hd]; exact hl), fun p hp => q _ _ (x.trans (Ex.new hp)) (.lst (Evl.sq_of upd_same) (dpAll_ex (Ex.new hp) hd))⟩
theorem d_call {ta : TA} {pre : List PyData → Prop} {g : List PyData → PyData} {E : XK} (h : EvDs K ta σ H ds) (hp : pre ds) : EvD K (tCall (spP K pre g) [] E ta) σ H (g ds) := fun H1 a Q q =>
  h H1 a _ fun vs H2 x hd => by
    show spP K pre g (vs ++ []) H2 Q E
    rw [List.append_nil]
    exact ⟨ds, hd, hp, fun v H3 y hv => q v H3 (x.trans y) hv⟩
theorem d_eqTo (h : EvD K te σ H d) (e1 : d = e) : EvD K te σ H e := e1 ▸ h
/-- len -/
def rLenQ (K : PySem.W.Frag) : List V → Hp → VK → Prop := fun xs H Q => ∃ p ys, xs = [.ref p] ∧ (SqL K H p ys ∨ SqT K H p ys) ∧ Q (.int ys.length) H
def rLenTx : List V → Hp → VK → Prop := fun xs H Q => ∃ z, xs = [.str z] ∧ z.length ≤ sizeLine ∧ Q (.int z.length) H
theorem d_lenT (h : EvD K te σ H (.tuple ds)) : EvD K (tCB (rLenQ K) (tCons te tNil)) σ H (.int (ds.length : Int)) := fun H1 a Q q =>
  h H1 a _ fun v H2 x hd => by
    cases hd with
    | tup hs hx => exact ⟨_, _, rfl, .inr hs, by rw [dpAll_len hx]; exact q _ H2 x (.int _)⟩
theorem d_lenL (h : EvD K te σ H (.list ds)) : EvD K (tCB (rLenQ K) (tCons te tNil)) σ H (.int (ds.length : Int)) := fun H1 a Q q =>
  h H1 a _ fun v H2 x hd => by
    cases hd with
    | lst hs hx => exact ⟨_, _, rfl, .inl hs, by rw [dpAll_len hx]; exact q _ H2 x (.int _)⟩
theorem d_lenS {x : Str} (h : EvD K te σ H (.str x)) (hz : x.length ≤ 100000) : EvD K (tCB rLenTx (tCons te tNil)) σ H (.int (x.length : Int)) := fun H1 a Q q =>
  h H1 a _ fun v H2 y hd => by
    cases hd
    exact ⟨x, rfl, Evl.sz_of hz, q _ H2 y (.int _)⟩
/-- equal data -/
theorem t_eqD (h : EvD K ta σ H d) (h2 : EvD K tb σ H e) (s1 : SeqAt.shaped d = true) (s2 : SeqAt.shaped e = true) : EvT (tTest (tOp (rEqD K) ta tb)) σ H (PyData.eqv d e) := fun H1 a Q q =>
  h H1 a _ fun v H2 x hd => h2 H2 (a.trans x) _ fun w H3 y he => ⟨d, e, dp_ex y hd, he, s1, s2, _, rfl, q H3 (x.trans y)⟩
theorem d_eqD (h : EvD K ta σ H d) (h2 : EvD K tb σ H e) (s1 : SeqAt.shaped d = true) (s2 : SeqAt.shaped e = true) : EvD K (tOp (rEqD K) ta tb) σ H (.bool (PyData.eqv d e)) := fun H1 a Q q =>
  h H1 a _ fun v H2 x hd => h2 H2 (a.trans x) _ fun w H3 y he => ⟨d, e, dp_ex y hd, he, s1, s2, q _ H3 (x.trans y) (.bl _)⟩
theorem d_neD (h : EvD K ta σ H d) (h2 : EvD K tb σ H e) (s1 : SeqAt.shaped d = true) (s2 : SeqAt.shaped e = true) : EvD K (tOp (rNeD K) ta tb) σ H (.bool (!PyData.eqv d e)) := fun H1 a Q q =>
  h H1 a _ fun v H2 x hd => h2 H2 (a.trans x) _ fun w H3 y he => ⟨d, e, dp_ex y hd, he, s1, s2, q _ H3 (x.trans y) (.bl _)⟩
/-- texts alike -/
theorem d_eqS {x y : Str} (h : EvD K ta σ H (.str x)) (h2 : EvD K tb σ H (.str y)) : EvD K (tOp rEq ta tb) σ H (.bool (decide (x = y))) :=
  d_eqTo (d_ofB (Evl.ev_op (ev_str h) (ev_str h2) (Evl.rv_eq rfl))) (by
    by_cases e : x = y
    · subst e; simp
    · rw [decide_eq_false e, decide_eq_false (fun z => e (V.str.inj z))])
theorem d_neS {x y : Str} (h : EvD K ta σ H (.str x)) (h2 : EvD K tb σ H (.str y)) : EvD K (tOp rNe ta tb) σ H (.bool (!decide (x = y))) :=
  d_eqTo (d_ofB (Evl.ev_op (ev_str h) (ev_str h2) (Evl.rv_ne rfl))) (by
    by_cases e : x = y
    · subst e; simp
    · rw [decide_eq_false e, decide_eq_false (fun z => e (V.str.inj z))])
theorem d_eqI {x y : Int} (h : EvD K ta σ H (.int x)) (h2 : EvD K tb σ H (.int y)) : EvD K (tOp rEq ta tb) σ H (.bool (decide (x = y))) :=
  d_eqTo (d_ofB (Evl.ev_op (ev_int h) (ev_int h2) (Evl.rv_eq rfl))) (by
    by_cases e : x = y
    · subst e; simp
    · rw [decide_eq_false e, decide_eq_false (fun z => e (V.int.inj z))])
theorem d_neI {x y : Int} (h : EvD K ta σ H (.int x)) (h2 : EvD K tb σ H (.int y)) : EvD K (tOp rNe ta tb) σ H (.bool (!decide (x = y))) :=
  d_eqTo (d_ofB (Evl.ev_op (ev_int h) (ev_int h2) (Evl.rv_ne rfl))) (by
    by_cases e : x = y
    · subst e; simp
    · rw [decide_eq_false e, decide_eq_false (fun z => e (V.int.inj z))])
theorem t_ofD {b : Bool} (h : EvD K te σ H (.bool b)) : EvT (tTest te) σ H b := Evl.et_test (ev_bl h)
theorem t_ofB {b : Bool} (h : EvD K te σ H (.bool b)) : EvT (tB te) σ H b := Evl.et_B (ev_bl h)
/-- isinstance -/
def tyName : PyData → String
  | .none => "NoneType"
  | .bool _ => "bool"
  | .int _ => "int"
  | .str _ => "str"
  | .list _ => "list"
  | .tuple _ => "tuple"
  | .dict _ => "dict"
theorem tyx {v : V} : ∀ {d : PyData}, Dp K H v d → TyX K H v (.type (tyName d)) := by
  intro d h
  cases h with
  | non => exact .base .non
  | bl b => exact .base (.bl b)
  | int i => exact .base (.int i)
  | str x => exact .base (.str x)
  | lst a b =>
    rcases a with a | a
    · rcases a with a | ⟨o, a⟩
      · exact .base (.lst a)
      · exact .base (.frz a)
    · obtain ⟨o, its, n, h1, h2, _⟩ := a
      exact .kList h1 h2
  | tup a b =>
    rcases a with a | a
    · rcases a with a | ⟨o, a⟩
      · exact .base (.tup a)
      · exact .fTuple a
    · obtain ⟨o, its, n, h1, h2, _⟩ := a
      exact .kTuple h1 h2
/-- isinstance(e, T), T a built-in class -/
def kitName (d : PyData) (T : String) : Bool := match kitB (tyName d) T with | some b => b | none => false
theorem d_isi {T : String} {b : Bool} (h : EvD K te σ H d) (hk : kitB (tyName d) T = some b) : EvD K (tCB (rIsi K) (tCons te (tCons (tC (.ty T)) tNil))) σ H (.bool b) := fun H1 a Q q =>
  h H1 a _ fun v H2 x hd => ⟨v, .ty T, .type (tyName d), .type T, b, rfl, .ty T, tyx hd, kit_ty hk, q _ H2 x (.bl b)⟩
theorem d_isiT {cs : List V} {us : List Value} {b : Bool} {ta : TA} (h : EvD K te σ H d) (hc : ∀ H1, Ex H H1 → EvA ta σ H1 cs) (hl : cs.length ≤ 100000) (hp : Paired ClsV cs us) (hk : PySem.W.kitAny K (.type (tyName d)) us = some b) :
    EvD K (tCB (rIsiT K) (tCons te (tCons (tTup ta) tNil))) σ H (.bool b) := fun H1 a Q q =>
  h H1 a _ fun v H2 x hd => hc H2 (a.trans x) H2 (Ex.refl H2) _ fun H3 y => ⟨Evl.sz_of hl, fun p hp' => ⟨v, p, cs, .type (tyName d), us, b, rfl, upd_same, hp, tyx (dp_ex (y.trans (Ex.new hp')) hd), hk, q _ _ ((x.trans y).trans (Ex.new hp')) (.bl b)⟩⟩
/-- not, and, or -/
theorem d_not {b : Bool} (h : EvD K te σ H (.bool b)) : EvD K (tNotV te) σ H (.bool (!b)) := d_ofB (Evl.ev_notV (ev_bl h))
theorem d_and {a b : Bool} (h1 : EvD K ta σ H (.bool a)) (h2 : a = true → EvD K tb σ H (.bool b)) : EvD K (tAndV ta tb) σ H (.bool (a && b)) := d_ofB (Evl.ev_andV (ev_bl h1) fun e => ev_bl (h2 e))
theorem d_or {a b : Bool} (h1 : EvD K ta σ H (.bool a)) (h2 : a = false → EvD K tb σ H (.bool b)) : EvD K (tOrV ta tb) σ H (.bool (a || b)) := d_ofB (Evl.ev_orV (ev_bl h1) fun e => ev_bl (h2 e))
/-- ints -/
theorem d_opI {g : Int → Int → V} {z : V} {i j : Int} {dz : PyData} (h : EvD K ta σ H (.int i)) (h2 : EvD K tb σ H (.int j)) (hz : ∀ G, Dp K G (g i j) dz) : EvD K (tOp (rI0 g) ta tb) σ H dz := fun H1 a Q q =>
  h H1 a _ fun v H2 x hd => h2 H2 (a.trans x) _ fun w H3 y he => by
    cases hd
    cases he
    exact ⟨i, j, rfl, rfl, q _ H3 (x.trans y) (hz _)⟩
theorem d_opS {g : Str → Str → V} {i j : Str} {dz : PyData} (h : EvD K ta σ H (.str i)) (h2 : EvD K tb σ H (.str j)) (hz : ∀ G, Dp K G (g i j) dz) : EvD K (tOp (fun x y H Q => ∃ i j, x = .str i ∧ y = .str j ∧ Q (g i j) H) ta tb) σ H dz := fun H1 a Q q =>
  h H1 a _ fun v H2 x hd => h2 H2 (a.trans x) _ fun w H3 y he => by
    cases hd
    cases he
    exact ⟨i, j, rfl, rfl, q _ H3 (x.trans y) (hz _)⟩
/-- c in s, c one sign -/
theorem d_inS {c : Nat} {z : Str} (h : EvD K ta σ H (.str ⟨#[c]⟩)) (h2 : EvD K tb σ H (.str z)) : EvD K (tOp rInS ta tb) σ H (.bool (decide (c ∈ z.cps.toList))) := fun H1 a Q q =>
  h H1 a _ fun v H2 x hd => h2 H2 (a.trans x) _ fun w H3 y he => by
    cases hd
    cases he
    exact ⟨c, z, rfl, rfl, q _ H3 (x.trans y) (.bl _)⟩
/-- xs[i] -/
theorem d_ixT {i : Int} (h : EvD K ta σ H (.tuple ds)) (h2 : EvD K tb σ H (.int i)) (hi : atI ds i = some d) : EvD K (tOp (rIxT K) ta tb) σ H d := fun H1 a Q q =>
  h H1 a _ fun v H2 x hd => h2 H2 (a.trans x) _ fun w H3 y he => by
    cases he
    cases hd with
    | tup hs hx =>
      rename_i p xs
      have hl : xs.length = ds.length := dpAll_len hx
      unfold atI at hi
      cases hk : ixN ds.length i with
      | none => rw [hk] at hi; cases hi
      | some k =>
        rw [hk] at hi
        obtain ⟨hk1, hk2⟩ := List.getElem?_eq_some_iff.mp hi
        have hx1 : xs[k]? = some xs[k] := List.getElem?_eq_getElem (by omega)
        exact ⟨_, xs, i, xs[k], rfl, rfl, Evl.ex_t y hs, by unfold atI; rw [show ixN xs.length i = some k from hl ▸ hk]; exact hx1, q _ H3 (x.trans y) (dp_ex y (dpAll_get hx hx1 hi))⟩
theorem d_ixL {i : Int} (h : EvD K ta σ H (.list ds)) (h2 : EvD K tb σ H (.int i)) (hi : atI ds i = some d) : EvD K (tOp (rIxL K) ta tb) σ H d := fun H1 a Q q =>
  h H1 a _ fun v H2 x hd => h2 H2 (a.trans x) _ fun w H3 y he => by
    cases he
    cases hd with
    | lst hs hx =>
      rename_i p xs
      have hl : xs.length = ds.length := dpAll_len hx
      unfold atI at hi
      cases hk : ixN ds.length i with
      | none => rw [hk] at hi; cases hi
      | some k =>
        rw [hk] at hi
        obtain ⟨hk1, hk2⟩ := List.getElem?_eq_some_iff.mp hi
        have hx1 : xs[k]? = some xs[k] := List.getElem?_eq_getElem (by omega)
        exact ⟨_, xs, i, xs[k], rfl, rfl, Evl.ex_l y hs, by unfold atI; rw [show ixN xs.length i = some k from hl ▸ hk]; exact hx1, q _ H3 (x.trans y) (dp_ex y (dpAll_get hx hx1 hi))⟩
theorem d_ixS {z : Str} {i : Int} {c : Nat} (h : EvD K ta σ H (.str z)) (h2 : EvD K tb σ H (.int i)) (hz : z.length ≤ 100000) (hi : atI z.cps.toList i = some c) : EvD K (tOp rIxS ta tb) σ H (.str ⟨#[c]⟩) :=
  d_ofS (Evl.ev_op (ev_str h) (ev_int h2) (Evl.rv_ixS hz hi))
/-- slices of texts -/
def EvP (K : PySem.W.Frag) (to : TO) (σ : L2.St) (H : Hp) (o : Option Int) : Prop := Evl.EvO to σ H o
theorem p_none : EvP K tNoPart σ H none := Evl.eo_none
theorem p_some {i : Int} (h : EvD K te σ H (.int i)) : EvP K (tPart te) σ H (some i) := Evl.eo_some (ev_int h)
theorem d_slS {tl th : TO} {z : Str} {lo hi : Option Int} (h : EvD K te σ H (.str z)) (h1 : EvP K tl σ H lo) (h2 : EvP K th σ H hi) (hz : z.length ≤ 100000) : EvD K (tSl rSlS te tl th) σ H (.str (cutS z lo hi)) := fun H1 a Q q =>
  h H1 a _ fun v H2 x hd => h1 H2 (a.trans x) _ fun H3 y => h2 H3 ((a.trans x).trans y) _ fun H4 w => by
    cases hd
    exact ⟨z, rfl, Evl.sz_of hz, q _ H4 ((x.trans y).trans w) (.str _)⟩
theorem cut_len (z : Str) (lo hi : Option Int) : (cutS z lo hi).length ≤ z.length := by
  unfold cutS
  have hl : z.cps.toList.length = z.length := Array.length_toList
  show (List.toArray _).size ≤ _
  rw [List.size_toArray, List.length_take, List.length_drop]
  omega
theorem cut_tl (z : Str) (lo hi : Option Int) : (cutS z lo hi).cps.toList = (z.cps.toList.drop (HT.sIx z.length 0 lo)).take (HT.sIx z.length z.length hi - HT.sIx z.length 0 lo) := rfl
/-- z[p:p+n] -/
theorem cut_mid (z : Str) (p n : Nat) : (cutS z (some (p : Int)) (some ((p + n : Nat) : Int))).cps.toList = (z.cps.toList.drop p).take n := by
  have hl : z.cps.toList.length = z.length := Array.length_toList
  rw [cut_tl, HT.sIx_nat, HT.sIx_nat]
  by_cases h : p ≤ z.length
  · rw [Nat.min_eq_left h]
    by_cases h2 : p + n ≤ z.length
    · rw [Nat.min_eq_left h2, show p + n - p = n by omega]
    · rw [Nat.min_eq_right (by omega), List.take_of_length_le (by rw [List.length_drop]; omega), List.take_of_length_le (by rw [List.length_drop]; omega)]
  · rw [List.drop_eq_nil_of_le (by omega : z.cps.toList.length ≤ p), List.drop_eq_nil_of_le (by omega)]
    simp
theorem cut_from (z : Str) (p : Nat) : (cutS z (some (p : Int)) none).cps.toList = z.cps.toList.drop p := by
  have hl : z.cps.toList.length = z.length := Array.length_toList
  rw [cut_tl, HT.sIx_nat, HT.sIx_none]
  by_cases h : p ≤ z.length
  · rw [Nat.min_eq_left h, List.take_of_length_le (by rw [List.length_drop]; omega)]
  · rw [List.drop_eq_nil_of_le (by omega : z.cps.toList.length ≤ p), List.drop_eq_nil_of_le (by omega)]
    simp
theorem cut_to (z : Str) (p : Nat) : (cutS z none (some (p : Int))).cps.toList = z.cps.toList.take p := by
  have hl : z.cps.toList.length = z.length := Array.length_toList
  rw [cut_tl, HT.sIx_nat, HT.sIx_none, List.drop_zero]
  by_cases h : p ≤ z.length
  · rw [Nat.min_eq_left h, Nat.sub_zero]
  · rw [Nat.min_eq_right (by omega), Nat.sub_zero, List.take_of_length_le (by omega), List.take_of_length_le (by omega)]
/-- texts joined -/
def rAddS : R2 := fun x y H Q => ∃ i j, x = .str i ∧ y = .str j ∧ i.length + j.length ≤ sizeLine ∧ Q (.str (i ++ j)) H
theorem d_addS {x y : Str} (h : EvD K ta σ H (.str x)) (h2 : EvD K tb σ H (.str y)) (hz : x.length + y.length ≤ 100000) : EvD K (tOp rAddS ta tb) σ H (.str (x ++ y)) := fun H1 a Q q =>
  h H1 a _ fun v H2 u hd => h2 H2 (a.trans u) _ fun w H3 y he => by
    cases hd
    cases he
    exact ⟨_, _, rfl, rfl, Evl.sz_of hz, q _ H3 (u.trans y) (.str _)⟩
theorem add_len (x y : Str) : (x ++ y).length = x.length + y.length := by
  show (x.cps ++ y.cps).size = _
  rw [Array.size_append]
  rfl
/-- all, any of a list -/
theorem bools_of {G : Hp} : ∀ {xs : List V} {bs : List Bool}, DpAll K G xs (bs.map PyData.bool) → xs = bs.map V.bl
  | _, [], .nil => rfl
  | _, _ :: _, .cons (.bl b) t => by rw [bools_of t]; rfl
theorem d_all {bs : List Bool} (h : EvD K te σ H (.list (bs.map PyData.bool))) : EvD K (tCB (rAll K) (tCons te tNil)) σ H (.bool (bs.all id)) := fun H1 a Q q =>
  h H1 a _ fun v H2 x hd => by
    cases hd with
    | lst hs hx => exact ⟨_, bs, rfl, by rw [← bools_of hx]; exact hs, q _ H2 x (.bl _)⟩
theorem d_any {bs : List Bool} (h : EvD K te σ H (.list (bs.map PyData.bool))) : EvD K (tCB (rAny K) (tCons te tNil)) σ H (.bool (bs.any id)) := fun H1 a Q q =>
  h H1 a _ fun v H2 x hd => by
    cases hd with
    | lst hs hx => exact ⟨_, bs, rfl, by rw [← bools_of hx]; exact hs, q _ H2 x (.bl _)⟩
/-- tuple(list), list(tuple) -/
def rTupQ (K : PySem.W.Frag) : List V → Hp → VK → Prop := fun xs H Q => ∃ p ys, xs = [.ref p] ∧ ((SqL K H p ys ∧ ∀ l, H l = none → Q (.ref l) (upd H l (.tup ys))) ∨ (SqT K H p ys ∧ Q (.ref p) H))
theorem d_tupOf (h : EvD K te σ H (.list ds)) : EvD K (tCB (rTupQ K) (tCons te tNil)) σ H (.tuple ds) := fun H1 a Q q =>
  h H1 a _ fun v H2 x hd => by
    cases hd with
    | lst hs hx => exact ⟨_, _, rfl, .inl ⟨hs, fun l hl => q _ _ (x.trans (Ex.new hl)) (.tup (Evl.st_of upd_same) (dpAll_ex (Ex.new hl) hx))⟩⟩
end
end AsKit

set_option maxHeartbeats 4000000
set_option autoImplicit false
/-! comprehensions and loops, told as data. -/
namespace AsKit
open PySem PySem.Spec PyProof.Rows L2 AsSort
open Evl (Ex Ev EvT EvA)

theorem lc_str {y : Str} {g : TG} {tt : TT} {te : TE} {vs : List Nat} {σ : L2.St} {H1 : Hp} {D : Addr} {Qd : Hp → Prop} (Pv : Nat → Hp → Prop) (h0 : Pv 0 (upd H1 D (.lst [])))
    (hs : ∀ i c H, y.cps.toList[i]? = some c → Pv i H → g (.str ⟨#[c]⟩) (wipe σ vs) H fun σ2 H2 => wipe σ2 vs = wipe σ vs ∧ tt σ2 H2 fun b H3 =>
      if b = true then te σ2 H3 fun y H4 => ∃ acc, H4 D = some (.lst acc) ∧ acc.length < sizeLine ∧ Pv (i + 1) (upd H4 D (.lst (acc ++ [y]))) else Pv (i + 1) H3) (hd : ∀ H, Pv y.cps.toList.length H → Qd H) :
    ∃ W : Nat → Nat → Hp → Prop, (∃ m, W 0 m (upd H1 D (.lst []))) ∧ ∀ i m H, W i m H →
      ((Its y).stop i H ∧ Qd H) ∨ ((Its y).go i H ∧ ∃ Nx : Hp → Prop, (∀ H', Nx H' → ∃ m', m' < m ∧ W (i + 1) m' H') ∧ ∀ x H', (Its y).yld i H x H' → g x (wipe σ vs) H' fun σ2 H2 => wipe σ2 vs = wipe σ vs ∧ tt σ2 H2 fun b H3 =>
        if b = true then te σ2 H3 fun y H4 => ∃ acc, H4 D = some (.lst acc) ∧ acc.length < sizeLine ∧ Nx (upd H4 D (.lst (acc ++ [y]))) else Nx H3) := by
  have hsz : y.cps.toList.length = y.cps.size := Array.length_toList
  refine ⟨fun i m H => m = y.cps.toList.length - i ∧ i ≤ y.cps.toList.length ∧ Pv i H, ⟨y.cps.toList.length, by simp, Nat.zero_le _, h0⟩, ?_⟩
  rintro i m H ⟨rfl, hi, p⟩
  by_cases hlt : i < y.cps.toList.length
  · refine .inr ⟨by show i < y.cps.size; omega, Pv (i + 1), fun H' p' => ⟨y.cps.toList.length - (i + 1), by omega, rfl, hlt, p'⟩, fun x H' z => ?_⟩
    obtain ⟨e, c, hc, rfl⟩ := z
    subst e
    exact hs i c _ (by rw [Array.getElem?_toList]; exact hc) p
  · have e : i = y.cps.toList.length := by omega
    subst e
    exact .inl ⟨by show y.cps.size ≤ _; omega, hd H p⟩

section
variable {K : PySem.W.Frag} {σ : L2.St} {H H' : Hp} {ta tb te tl : TE} {t u : TT} {d e : PyData} {ds : List PyData} {gt : TG} {vs : List Nat}
/-- D holds what the first i items gave -/
def Cd (K : PySem.W.Frag) (H : Hp) (ds : List PyData) (f : PyData → Bool) (g : PyData → PyData) (D : Addr) (i : Nat) (H' : Hp) : Prop := H D = none ∧ Ex H H' ∧ ∃ acc, H' D = some (.lst acc) ∧ DpAll K H' acc (((ds.take i).filter f).map g)
theorem immAll_of : ∀ {ds : List PyData}, (∀ d ∈ ds, imm d = true) → immAll ds = true
  | [], _ => rfl
  | d :: ds, h => by
    show (imm d && immAll ds) = true
    rw [h d (List.mem_cons_self ..), immAll_of fun z hz => h z (List.mem_cons_of_mem _ hz)]
    rfl
theorem imm_all {ds : List PyData} (h : immAll ds = true) : ∀ d ∈ ds, imm d = true := fun d hd => by
  obtain ⟨i, hi⟩ := List.mem_iff_getElem?.mp hd
  exact immAll_get h hi
theorem cd_imm {f : PyData → Bool} {g : PyData → PyData} (him : ∀ d ∈ ds, f d = true → imm (g d) = true) (i : Nat) : immAll (((ds.take i).filter f).map g) = true := immAll_of fun z hz => by
  obtain ⟨d, hd, rfl⟩ := List.mem_map.mp hz
  have h2 := List.mem_filter.mp hd
  exact him d (List.mem_of_mem_take h2.1) h2.2
theorem cd_turn {f : PyData → Bool} {g : PyData → PyData} {D : Addr} {i : Nat} {σ2 : L2.St} (him : ∀ d ∈ ds, f d = true → imm (g d) = true) (p : Cd K H ds f g D i H') (hi : ds[i]? = some d) (hz : ds.length ≤ 50000)
    (ht : EvT t σ2 H' (f d)) (he : f d = true → EvD K te σ2 H' (g d)) :
    t σ2 H' fun b H3 => if b = true then te σ2 H3 fun y H4 => ∃ acc, H4 D = some (.lst acc) ∧ acc.length < sizeLine ∧ Cd K H ds f g D (i + 1) (upd H4 D (.lst (acc ++ [y]))) else Cd K H ds f g D (i + 1) H3 := by
  obtain ⟨p1, p2, acc, p3, p4⟩ := p
  have ek : ds.take (i + 1) = ds.take i ++ [d] := by rw [List.take_add_one, hi]; simp
  refine ht H' (Ex.refl _) _ fun H3 e3 => ?_
  cases hf : f d with
  | true =>
    show te σ2 H3 fun y H4 => ∃ acc, H4 D = some (.lst acc) ∧ acc.length < sizeLine ∧ Cd K H ds f g D (i + 1) (upd H4 D (.lst (acc ++ [y])))
    refine he hf H3 e3 _ fun y H4 e4 hy => ?_
    have p5 : H4 D = some (.lst acc) := e4 D _ (e3 D _ p3)
    have hl : acc.length ≤ 50000 := by
      rw [dpAll_len p4, List.length_map]
      have h1 := List.length_filter_le f (ds.take i)
      have h2 := List.length_take_le i ds
      have h3 := List.length_take_le' i ds
      omega
    refine ⟨acc, p5, Evl.sz_lt (by omega), p1, Ex.mut ((p2.trans e3).trans e4) p1, acc ++ [y], upd_same, ?_⟩
    have h6 : DpAll K H4 acc (((ds.take i).filter f).map g) := dpAll_ex (e3.trans e4) p4
    have hd' : d ∈ ds := List.mem_of_getElem? hi
    rw [ek, List.filter_append, List.map_append, List.filter_cons, if_pos hf]
    exact dpAll_snoc (dp_tu (tu_lst p5) (him d hd' hf) hy) (dpAll_tu (tu_lst p5) (cd_imm him i) h6)
  | false =>
    show Cd K H ds f g D (i + 1) H3
    refine ⟨p1, p2.trans e3, acc, e3 D _ p3, ?_⟩
    rw [ek, List.filter_append, List.map_append, List.filter_cons, if_neg (by rw [hf]; decide)]
    show DpAll K H3 acc (_ ++ [])
    rw [List.append_nil]
    exact dpAll_ex e3 p4
theorem cd_end {f : PyData → Bool} {g : PyData → PyData} {D : Addr} (p : Cd K H ds f g D ds.length H') : Ex H H' ∧ Dp K H' (.ref D) (.list ((ds.filter f).map g)) := by
  obtain ⟨p1, p2, acc, p3, p4⟩ := p
  rw [List.take_length] at p4
  exact ⟨p2, .lst (Evl.sq_of p3) p4⟩
theorem cd_end2 {f : PyData → Bool} {g : PyData → PyData} {D : Addr} {n : Nat} (hl : ds.length = n) (p : Cd K H ds f g D n H') : Ex H H' ∧ Dp K H' (.ref D) (.list ((ds.filter f).map g)) := by
  subst hl
  exact cd_end p
theorem cd_start {f : PyData → Bool} {g : PyData → PyData} {D : Addr} (h : H D = none) : Cd K H ds f g D 0 (upd H D (.lst [])) := ⟨h, Ex.new h, [], upd_same, by rw [List.take_zero]; exact .nil⟩
/-- what a turn asks: the target takes the item d, then test and expression -/
def Turn (K : PySem.W.Frag) (gt : TG) (t : TT) (te : TE) (vs : List Nat) (σ : L2.St) (H : Hp) (d : PyData) (b : Bool) (o : PyData) : Prop := ∀ x H1, Ex H H1 → Dp K H1 x d → ∀ k : L2.St → Hp → Prop,
  (∀ σ2, wipe σ2 vs = wipe σ vs → EvT t σ2 H1 b → (b = true → EvD K te σ2 H1 o) → k σ2 H1) → gt x (wipe σ vs) H1 k
theorem d_lcT (f : PyData → Bool) (g : PyData → PyData) (h : EvD K tl σ H (.tuple ds)) (hz : ds.length ≤ 50000) (him : ∀ d ∈ ds, f d = true → imm (g d) = true) (ht : ∀ d ∈ ds, Turn K gt t te vs σ H d (f d) (g d)) :
    EvD K (tLc (iTup K tl) gt t te vs) σ H (.list ((ds.filter f).map g)) := fun H1 a Q q => h H1 a _ fun v H2 x hd => by
  cases hd with
  | tup hs hx =>
    refine ⟨_, rfl, ⟨_, hs⟩, fun D hD => lc_tup (Cd K H2 ds f g D) (cd_start hD) (fun i H' _ p => Evl.ex_t p.2.1 hs) (fun i y H' hi p => ?_) fun H' p => ?_⟩
    · have hi2 : i < ds.length := by rw [← dpAll_len hx]; exact (List.getElem?_eq_some_iff.mp hi).1
      have hd : ds[i]? = some ds[i] := List.getElem?_eq_getElem hi2
      exact ht ds[i] (List.getElem_mem hi2) y H' (a.trans (x.trans p.2.1)) (dp_ex p.2.1 (dpAll_get hx hi hd)) _ fun σ2 w h1 h2 => ⟨w, cd_turn him p hd hz h1 h2⟩
    · rw [dpAll_len hx] at p
      have z := cd_end p
      exact q _ H' (x.trans z.1) z.2
theorem d_lcL (f : PyData → Bool) (g : PyData → PyData) (h : EvD K tl σ H (.list ds)) (hz : ds.length ≤ 50000) (him : ∀ d ∈ ds, f d = true → imm (g d) = true) (ht : ∀ d ∈ ds, Turn K gt t te vs σ H d (f d) (g d)) :
    EvD K (tLc (iList K tl) gt t te vs) σ H (.list ((ds.filter f).map g)) := fun H1 a Q q => h H1 a _ fun v H2 x hd => by
  cases hd with
  | lst hs hx =>
    refine ⟨_, rfl, ⟨_, hs⟩, fun D hD => lc_list (Cd K H2 ds f g D) (cd_start hD) (fun i H' _ p => Evl.ex_l p.2.1 hs) (fun i y H' hi p => ?_) fun H' p => ?_⟩
    · have hi2 : i < ds.length := by rw [← dpAll_len hx]; exact (List.getElem?_eq_some_iff.mp hi).1
      have hd : ds[i]? = some ds[i] := List.getElem?_eq_getElem hi2
      exact ht ds[i] (List.getElem_mem hi2) y H' (a.trans (x.trans p.2.1)) (dp_ex p.2.1 (dpAll_get hx hi hd)) _ fun σ2 w h1 h2 => ⟨w, cd_turn him p hd hz h1 h2⟩
    · rw [dpAll_len hx] at p
      have z := cd_end p
      exact q _ H' (x.trans z.1) z.2
/-- a text's sgns -/
def sgns (z : Str) : List PyData := z.cps.toList.map fun c => .str ⟨#[c]⟩
theorem d_lcS {z : Str} (f : PyData → Bool) (g : PyData → PyData) (h : EvD K tl σ H (.str z)) (hz : z.length ≤ 50000) (him : ∀ d ∈ sgns z, f d = true → imm (g d) = true) (ht : ∀ c ∈ z.cps.toList, Turn K gt t te vs σ H (.str ⟨#[c]⟩) (f (.str ⟨#[c]⟩)) (g (.str ⟨#[c]⟩))) :
    EvD K (tLc (iStr tl) gt t te vs) σ H (.list (((sgns z).filter f).map g)) := fun H1 a Q q => h H1 a _ fun v H2 x hd => by
  cases hd
  have hl : (sgns z).length = z.cps.toList.length := List.length_map ..
  have hl2 : z.cps.toList.length = z.length := Array.length_toList
  refine ⟨z, rfl, fun D hD => lc_str (Cd K H2 (sgns z) f g D) (cd_start hD) (fun i c H' hi p => ?_) fun H' p => ?_⟩
  · have hd : (sgns z)[i]? = some (.str ⟨#[c]⟩) := by unfold sgns; rw [List.getElem?_map, hi]; rfl
    exact ht c (List.mem_of_getElem? hi) _ H' (a.trans (x.trans p.2.1)) (.str _) _ fun σ2 w h1 h2 => ⟨w, cd_turn him p hd (by omega) h1 h2⟩
  · have z := cd_end2 hl p
    exact q _ H' (x.trans z.1) z.2
/-- range(lo, hi) -/
def rngD (lo : Int) (n : Nat) : List PyData := (List.range n).map fun (i : Nat) => .int (lo + i)
theorem d_lcR2 {ta : TA} {lo hi : Int} (f : PyData → Bool) (g : PyData → PyData) (h : EvDs K ta σ H [.int lo, .int hi]) (hn : -1000 ≤ lo ∧ lo ≤ 40000 ∧ -1000 ≤ hi ∧ hi ≤ 40000) (him : ∀ d ∈ rngD lo (hi - lo).toNat, f d = true → imm (g d) = true)
    (ht : ∀ i : Nat, i < (hi - lo).toNat → Turn K gt t te vs σ H (.int (lo + i)) (f (.int (lo + i))) (g (.int (lo + i)))) :
    EvD K (tLc (iRng2 ta) gt t te vs) σ H (.list (((rngD lo (hi - lo).toNat).filter f).map g)) := fun H1 a Q q => ds_ev2 h H1 a _ fun H2 x => by
  have hl : (rngD lo (hi - lo).toNat).length = (hi - lo).toNat := by unfold rngD; rw [List.length_map, List.length_range]
  refine ⟨lo, hi, rfl, by omega, fun D hD => lc_range (lo := lo) (n := (hi - lo).toNat) (Cd K H2 (rngD lo (hi - lo).toNat) f g D) (cd_start hD) (fun i H' hi p => ?_) fun H' p => ?_⟩
  · have hd : (rngD lo (‹Int› - lo).toNat)[i]? = some (.int (lo + i)) := by unfold rngD; rw [List.getElem?_map, List.getElem?_range hi]; rfl
    exact ht i hi _ H' (a.trans (x.trans p.2.1)) (.int _) _ fun σ2 w h1 h2 => ⟨w, cd_turn him p hd (by omega) h1 h2⟩
  · have z := cd_end2 hl p
    exact q _ H' (x.trans z.1) z.2
theorem d_lcR1 {ta : TA} {hi : Int} (f : PyData → Bool) (g : PyData → PyData) (h : EvDs K ta σ H [.int hi]) (hn : -1000 ≤ hi ∧ hi ≤ 40000) (him : ∀ d ∈ rngD 0 hi.toNat, f d = true → imm (g d) = true)
    (ht : ∀ i : Nat, i < hi.toNat → Turn K gt t te vs σ H (.int (0 + i)) (f (.int (0 + i))) (g (.int (0 + i)))) :
    EvD K (tLc (iRng1 ta) gt t te vs) σ H (.list (((rngD 0 hi.toNat).filter f).map g)) := fun H1 a Q q => ds_ev h H1 a _ fun H2 x => by
  have hl : (rngD 0 hi.toNat).length = hi.toNat := by unfold rngD; rw [List.length_map, List.length_range]
  refine ⟨hi, rfl, by omega, by omega, fun D hD => lc_range (lo := 0) (n := hi.toNat) (Cd K H2 (rngD 0 hi.toNat) f g D) (cd_start hD) (fun i H' hi p => ?_) fun H' p => ?_⟩
  · have hd : (rngD 0 (‹Int›).toNat)[i]? = some (.int (0 + i)) := by unfold rngD; rw [List.getElem?_map, List.getElem?_range hi]; rfl
    exact ht i hi _ H' (a.trans (x.trans p.2.1)) (.int _) _ fun σ2 w h1 h2 => ⟨w, cd_turn him p hd (by omega) h1 h2⟩
  · have z := cd_end2 hl p
    exact q _ H' (x.trans z.1) z.2
variable {D : Ends} {tu tw tz : TS}
theorem s_ret {d : PyData} (h : EvD K te σ H d) (k : ∀ v H1, Ex H H1 → Dp K H1 v d → D.rt v H1) : tRet te D σ H := h H (Ex.refl H) _ k
theorem q_asg {i : Nat} {d : PyData} (h : EvD K te σ H d) (k : ∀ v H1, Ex H H1 → Dp K H1 v d → tz D (σ.set i (some v)) H1) : tSeq (tAsg te (gName i)) tz D σ H := h H (Ex.refl H) _ k
theorem s_asg {i : Nat} {d : PyData} (h : EvD K te σ H d) (k : ∀ v H1, Ex H H1 → Dp K H1 v d → D.nx (σ.set i (some v)) H1) : tAsg te (gName i) D σ H := h H (Ex.refl H) _ k
end
end AsKit

set_option maxHeartbeats 4000000
set_option autoImplicit false
/-! words for the defs of the program: names of the top, promises, tests. -/
namespace AsKit
open PySem PySem.Spec PyProof.Rows L2 AsSort
open Evl (Ex Ev EvT EvA)

/-- a def of the top -/
def Df (K : PySem.W.Frag) (mg : Str → Option Value) (x : Str) (st : Stmt) : Prop := ∃ f fd, FunD K x x (defArgs st) (defBody st) (defScope st) [] [] f fd ∧ mg x = some (.ref f)
def blts : List Str := ["isinstance", "int", "bool", "str", "tuple", "list", "dict", "len", "range", "all", "any", "set", "sorted"]
def Bl (mg : Str → Option Value) : Prop := ∀ x, x ∈ blts → mg x = none
/-- a number of the top -/
def Gn (mg : Str → Option Value) (x : Str) (n : Int) : Prop := ∃ u, mg x = some u ∧ RelV (.int n) u
abbrev Cl := C8.Cal
theorem cl_of {P : Program} {w : World} {K : PySem.W.Frag} {mg : Str → Option Value} {base : Heap} {x : Str} {st : Stmt} {N ps : List Str} {k : Nat} {sp : Sp} (D : Df K mg x st) (S : FnScope N ps (defScope st)) (len : ∀ vs H Q E, sp vs H Q E → vs.length = ps.length)
    (hb : ∀ (kV doc pm : Value) (an : Option Addr) (cdv ct : Value) (us : List Value), us.length = ps.length → bindArgs (PySem.W.fnOf x x (defArgs st) (defBody st) (defScope st) .none kV doc pm an cdv ct) ⟨us, []⟩ = pure (ps.zip us))
    (hbody : ∀ (f : Addr) (cdv : Value) (A : Around) (outer : List Env) (s : Shared) (H : Hp) (vs : List V) (Q : VK) (E : XK), Room k (A.deeper (envOfC x (defScope st) s.heap.objs.size f cdv)) → sp vs H Q E →
      ∃ t, PSs (cxOf CX0 P w K mg base N x (defScope st) f cdv A outer s H E).nox (defBody st) t ∧ t { nx := fun _ H' => Q .non H', rt := Q } (start N vs) H) : Cl P w K mg base (k + 1) x sp [] := by
  obtain ⟨f, fd, F, hm⟩ := D
  exact ⟨f, fd, ps, [], F.ok S len fun cdv A outer s H vs Q E hr h => let ⟨t, z, q⟩ := hbody f cdv A outer s H vs Q E hr h; ⟨t, PSs.nox z, q⟩, hm, F.kp, F.bindsN hb, .nil⟩
/-- .. with its address and its parameters' names -/
def Kl (P : Program) (w : World) (K : PySem.W.Frag) (mg : Str → Option Value) (base : Heap) (k : Nat) (x : Str) (ps : List Str) (sp : Sp) : Prop := ∃ f fd, FnOk P w K mg base CX0 k f fd ps sp ∧ mg x = some (.ref f) ∧ PySem.W.keepIn K (.ref f) = true ∧ Binds K fd ps []
theorem kl_of {P : Program} {w : World} {K : PySem.W.Frag} {mg : Str → Option Value} {base : Heap} {x : Str} {st : Stmt} {N ps : List Str} {k : Nat} {sp : Sp} (D : Df K mg x st) (S : FnScope N ps (defScope st)) (len : ∀ vs H Q E, sp vs H Q E → vs.length = ps.length)
    (hb : ∀ (kV doc pm : Value) (an : Option Addr) (cdv ct : Value) (us : List Value), us.length = ps.length → bindArgs (PySem.W.fnOf x x (defArgs st) (defBody st) (defScope st) .none kV doc pm an cdv ct) ⟨us, []⟩ = pure (ps.zip us))
    (hbody : ∀ (f : Addr) (cdv : Value) (A : Around) (outer : List Env) (s : Shared) (H : Hp) (vs : List V) (Q : VK) (E : XK), Room k (A.deeper (envOfC x (defScope st) s.heap.objs.size f cdv)) → sp vs H Q E →
      ∃ t, PSs (cxOf CX0 P w K mg base N x (defScope st) f cdv A outer s H E).nox (defBody st) t ∧ t { nx := fun _ H' => Q .non H', rt := Q } (start N vs) H) : Kl P w K mg base (k + 1) x ps sp := by
  obtain ⟨f, fd, F, hm⟩ := D
  exact ⟨f, fd, F.ok S len fun cdv A outer s H vs Q E hr h => let ⟨t, z, q⟩ := hbody f cdv A outer s H vs Q E hr h; ⟨t, PSs.nox z, q⟩, hm, F.kp, F.bindsN hb⟩
theorem fnok_of {P : Program} {w : World} {K : PySem.W.Frag} {mg : Str → Option Value} {base : Heap} {x : Str} {st : Stmt} {N ps : List Str} {k : Nat} {sp : Sp} {f : Addr} {fd : FuncData} (F : FunD K x x (defArgs st) (defBody st) (defScope st) [] [] f fd) (S : FnScope N ps (defScope st)) (len : ∀ vs H Q E, sp vs H Q E → vs.length = ps.length)
    (hbody : ∀ (f : Addr) (cdv : Value) (A : Around) (outer : List Env) (s : Shared) (H : Hp) (vs : List V) (Q : VK) (E : XK), Room k (A.deeper (envOfC x (defScope st) s.heap.objs.size f cdv)) → sp vs H Q E →
      ∃ t, PSs (cxOf CX0 P w K mg base N x (defScope st) f cdv A outer s H E).nox (defBody st) t ∧ t { nx := fun _ H' => Q .non H', rt := Q } (start N vs) H) : FnOk P w K mg base CX0 (k + 1) f fd ps sp :=
  F.ok S len fun cdv A outer s H vs Q E hr h => let ⟨t, z, q⟩ := hbody f cdv A outer s H vs Q E hr h; ⟨t, PSs.nox z, q⟩
theorem Kl.cl {P : Program} {w : World} {K : PySem.W.Frag} {mg : Str → Option Value} {base : Heap} {k : Nat} {x : Str} {ps : List Str} {sp : Sp} (h : Kl P w K mg base k x ps sp) : Cl P w K mg base k x sp [] := by
  obtain ⟨f, fd, F, hm, kp, b⟩ := h
  exact ⟨f, fd, ps, [], F, hm, kp, b, .nil⟩
section
variable {K : PySem.W.Frag} {σ : L2.St} {H H' : Hp} {ta tb tc te tl : TE} {t u : TT} {d e : PyData} {ds : List PyData}
theorem len_sp {K : PySem.W.Frag} {pre : List PyData → Prop} {g : List PyData → PyData} {n : Nat} (h : ∀ ds, pre ds → ds.length = n) : ∀ vs H Q E, spP K pre g vs H Q E → vs.length = n := fun vs H Q E ⟨ds, a, b, _⟩ => (dpAll_len a).trans (h ds b)
/-- chains -/
theorem d_chI {g1 g2 : Int → Int → Bool} {i j k : Int} (h1 : EvD K ta σ H (.int i)) (h2 : EvD K tb σ H (.int j)) (h3 : g1 i j = true → EvD K tc σ H (.int k)) :
    EvD K (tChain (rI0 fun i j => .bl (g1 i j)) (rI0 fun i j => .bl (g2 i j)) ta tb tc) σ H (.bool (g1 i j && g2 j k)) := fun H1 a Q q =>
  h1 H1 a _ fun v H2 x hd => h2 H2 (a.trans x) _ fun w H3 y he => by
    cases hd
    cases he
    refine ⟨i, j, rfl, rfl, _, rfl, ?_⟩
    cases hg : g1 i j with
    | true =>
      refine h3 hg H3 (a.trans (x.trans y)) _ fun z H4 u hz => ?_
      cases hz
      exact ⟨j, k, rfl, rfl, q _ H4 ((x.trans y).trans u) (by rw [hg]; exact .bl _)⟩
    | false => exact q _ H3 (x.trans y) (by rw [hg]; exact .bl false)
theorem d_chS {g1 g2 : Str → Str → Bool} {i j k : Str} (h1 : EvD K ta σ H (.str i)) (h2 : EvD K tb σ H (.str j)) (h3 : EvD K tc σ H (.str k)) :
    EvD K (tChain (fun x y H Q => ∃ i j, x = .str i ∧ y = .str j ∧ Q (.bl (g1 i j)) H) (fun x y H Q => ∃ i j, x = .str i ∧ y = .str j ∧ Q (.bl (g2 i j)) H) ta tb tc) σ H (.bool (g1 i j && g2 j k)) := fun H1 a Q q =>
  h1 H1 a _ fun v H2 x hd => h2 H2 (a.trans x) _ fun w H3 y he => by
    cases hd
    cases he
    refine ⟨i, j, rfl, rfl, _, rfl, ?_⟩
    cases hg : g1 i j with
    | true =>
      refine h3 H3 (a.trans (x.trans y)) _ fun z H4 u hz => ?_
      cases hz
      exact ⟨j, k, rfl, rfl, q _ H4 ((x.trans y).trans u) (by rw [hg]; exact .bl _)⟩
    | false => exact q _ H3 (x.trans y) (by rw [hg]; exact .bl false)
/-- is d of the built-in class T -/
def isD (T : String) (d : PyData) : Bool := match kitB (tyName d) T with
  | some b => b
  | none => false
def names7 : List String := ["NoneType", "bool", "int", "str", "list", "tuple", "dict"]
theorem ty7 : ∀ d : PyData, tyName d ∈ names7
  | .none => by decide +kernel
  | .bool _ => (by decide +kernel : ("bool" : String) ∈ names7)
  | .int _ => (by decide +kernel : ("int" : String) ∈ names7)
  | .str _ => (by decide +kernel : ("str" : String) ∈ names7)
  | .list _ => (by decide +kernel : ("list" : String) ∈ names7)
  | .tuple _ => (by decide +kernel : ("tuple" : String) ∈ names7)
  | .dict _ => (by decide +kernel : ("dict" : String) ∈ names7)
theorem isD_kit {T : String} (h : (names7.all fun y => (kitB y T).isSome) = true) (d : PyData) : kitB (tyName d) T = some (isD T d) := by
  have z := List.all_eq_true.mp h _ (ty7 d)
  unfold isD
  cases e : kitB (tyName d) T with
  | none => rw [e] at z; cases z
  | some b => rfl
theorem d_isD {T : String} (h : EvD K te σ H d) (hk : (names7.all fun y => (kitB y T).isSome) = true := by decide +kernel) : EvD K (tCB (rIsi K) (tCons te (tCons (tC (.ty T)) tNil))) σ H (.bool (isD T d)) := d_isi h (isD_kit hk d)
theorem isD_str {d : PyData} (h : isD "str" d = true) : ∃ z, d = .str z := by
  have z : ∀ y ∈ names7, y ≠ "str" → kitB y "str" = some false := by decide +kernel
  cases d with
  | str x => exact ⟨x, rfl⟩
  | _ => exact absurd h (by unfold isD; rw [z _ (ty7 _) (by show _ ≠ _; simp only [tyName]; decide)]; decide)
theorem isD_tup {d : PyData} (h : isD "tuple" d = true) : ∃ z, d = .tuple z := by
  have z : ∀ y ∈ names7, y ≠ "tuple" → kitB y "tuple" = some false := by decide +kernel
  cases d with
  | tuple x => exact ⟨x, rfl⟩
  | _ => exact absurd h (by unfold isD; rw [z _ (ty7 _) (by show _ ≠ _; simp only [tyName]; decide)]; decide)
theorem isD_str1 (z : Str) : isD "str" (.str z) = true := (by decide +kernel : (match kitB "str" "str" with | some b => b | none => false) = true)
theorem isD_tup1 (z : List PyData) : isD "tuple" (.tuple z) = true := (by decide +kernel : (match kitB "tuple" "tuple" with | some b => b | none => false) = true)
def one (g : PyData → PyData) : List PyData → PyData
  | [d] => g d
  | _ => .none
def two (g : PyData → PyData → PyData) : List PyData → PyData
  | [d, e] => g d e
  | _ => .none
def three (g : PyData → PyData → PyData → PyData) : List PyData → PyData
  | [d, e, f] => g d e f
  | _ => .none
def four (g : PyData → PyData → PyData → PyData → PyData) : List PyData → PyData
  | [d, e, f, u] => g d e f u
  | _ => .none
/-- ints compared -/
theorem d_cmpI {g : Int → Int → Bool} {i j : Int} (h1 : EvD K ta σ H (.int i)) (h2 : EvD K tb σ H (.int j)) : EvD K (tOp (rI0 fun i j => .bl (g i j)) ta tb) σ H (.bool (g i j)) := d_opI (z := .non) h1 h2 fun _ => .bl _
theorem d_cmpS {g : Str → Str → Bool} {i j : Str} (h1 : EvD K ta σ H (.str i)) (h2 : EvD K tb σ H (.str j)) : EvD K (tOp (fun x y H Q => ∃ i j, x = .str i ∧ y = .str j ∧ Q (.bl (g i j)) H) ta tb) σ H (.bool (g i j)) := d_opS h1 h2 fun _ => .bl _
theorem d_arI {g : Int → Int → Int} {i j : Int} (h1 : EvD K ta σ H (.int i)) (h2 : EvD K tb σ H (.int j)) : EvD K (tOp (rI0 fun i j => .int (g i j)) ta tb) σ H (.int (g i j)) := d_opI (z := .non) h1 h2 fun _ => .int _
/-- an if whose test is known -/
theorem s_ifD {D : Ends} {tu tw : TS} {b : Bool} (h : EvT t σ H b) (h1 : b = true → ∀ H1, Ex H H1 → tu D σ H1) (h2 : b = false → ∀ H1, Ex H H1 → tw D σ H1) : tIfS t tu tw D σ H := Evl.s_if h h1 h2
theorem at_dp {i : Nat} {v : V} (h : σ[i]? = some (some v)) (hd : Dp K H v d) : At K σ H i d := ⟨v, h, hd⟩
theorem s_exprD {D : Ends} (h : EvD K te σ H d) (k : ∀ H1, Ex H H1 → D.nx σ H1) : tDrop te D σ H := h H (Ex.refl H) _ fun _ H1 e _ => k H1 e
theorem q_exprD {D : Ends} {tz : TS} (h : EvD K te σ H d) (k : ∀ H1, Ex H H1 → tz D σ H1) : tSeq (tDrop te) tz D σ H := h H (Ex.refl H) _ fun _ H1 e _ => k H1 e
/-- a list that grows: at l, unknown in H0 -/
def Ac (K : PySem.W.Frag) (H0 : Hp) (l : Addr) (ds : List PyData) (H' : Hp) : Prop := H0 l = none ∧ Ex H0 H' ∧ ∃ acc, H' l = some (.lst acc) ∧ DpAll K H' acc ds
theorem ac_new {H0 H1 : Hp} {l : Addr} (h : H0 l = none) (e : Ex H0 H1) (h2 : H1 l = some (.lst [])) : Ac K H0 l [] H1 := ⟨h, e, [], h2, .nil⟩
theorem Ac.mono {H0 H1 H2 : Hp} {l : Addr} (a : Ac K H0 l ds H1) (e : Ex H1 H2) : Ac K H0 l ds H2 := let ⟨h1, h2, acc, h3, h4⟩ := a; ⟨h1, h2.trans e, acc, e _ _ h3, dpAll_ex e h4⟩
theorem ac_app {H0 H1 : Hp} {l : Addr} {acc : List V} {v : V} (h1 : H0 l = none) (h2 : Ex H0 H1) (h3 : H1 l = some (.lst acc)) (h4 : DpAll K H1 acc ds) (him : immAll ds = true) (hd : imm d = true) (hv : Dp K H1 v d) : Ac K H0 l (ds ++ [d]) (upd H1 l (.lst (acc ++ [v]))) :=
  ⟨h1, Ex.mut h2 h1, acc ++ [v], upd_same, dpAll_snoc (dp_tu (tu_lst h3) hd hv) (dpAll_tu (tu_lst h3) him h4)⟩
/-- l.append(e) -/
theorem s_appD {D : Ends} {i : Nat} {H0 : Hp} {l : Addr} (hσ : σ[i]? = some (some (.ref l))) (a : Ac K H0 l ds H) (h : EvD K te σ H d) (him : immAll ds = true) (hd : imm d = true) (hz : ds.length < 100000) (k : ∀ H1, Ac K H0 l (ds ++ [d]) H1 → D.nx σ H1) :
    tDrop (tBM K "list" rAppend (tVar i) (tCons te tNil)) D σ H := by
  obtain ⟨h1, h2, acc, h3, h4⟩ := a
  refine ⟨_, hσ, .inl ⟨rfl, acc, Evl.sq_of h3⟩, h H (Ex.refl H) _ fun v H1 e hv => ?_⟩
  exact ⟨l, acc, v, rfl, rfl, e l _ h3, Evl.sz_lt (by rw [dpAll_len h4]; exact hz), k _ (ac_app h1 (h2.trans e) (e l _ h3) (dpAll_ex e h4) him hd hv)⟩
theorem ac_dp {H0 H1 : Hp} {l : Addr} (a : Ac K H0 l ds H1) : Dp K H1 (.ref l) (.list ds) := let ⟨_, _, _, h3, h4⟩ := a; .lst (Evl.sq_of h3) h4
/-- for x in a list of data that stays; what is known of it, it had in H0 -/
theorem s_forLD {D : Ends} {tu : TS} {g : TG} {H0 : Hp} {v : V} {i : Nat} (hσ : σ[i]? = some (some v)) (hv : Dp K H0 v (.list ds)) (e : Ex H0 H) (Pv : Nat → L2.St → Hp → Prop) (h0 : Pv 0 σ H) (hx : ∀ j σ' H', Pv j σ' H' → Ex H0 H')
    (hs : ∀ j d x σ' H', ds[j]? = some d → Dp K H' x d → Pv j σ' H' → g x σ' H' fun σ2 H2 => tu { D with nx := Pv (j + 1), ct := Pv (j + 1), bk := D.nx } σ2 H2) (hd : ∀ σ' H', Pv ds.length σ' H' → D.nx σ' H') : tFor (iList K (tVar i)) g tu D σ H := by
  cases hv with
  | lst hq hl =>
    refine ⟨_, hσ, _, rfl, ⟨_, Evl.ex_l e hq⟩, for_list Pv h0 (fun j σ' H' _ p => Evl.ex_l (hx j σ' H' p) hq) (fun j x σ' H' hj p => ?_) fun σ' H' p => hd σ' H' (by rw [← dpAll_len hl]; exact p)⟩
    have hj2 : j < ds.length := by rw [← dpAll_len hl]; exact (List.getElem?_eq_some_iff.mp hj).1
    have hd2 : ds[j]? = some ds[j] := List.getElem?_eq_getElem hj2
    exact hs j _ x σ' H' hd2 (dp_ex (hx j σ' H' p) (dpAll_get hl hj hd2)) p
theorem s_forTD {D : Ends} {tu : TS} {g : TG} {H0 : Hp} {v : V} {i : Nat} (hσ : σ[i]? = some (some v)) (hv : Dp K H0 v (.tuple ds)) (e : Ex H0 H) (Pv : Nat → L2.St → Hp → Prop) (h0 : Pv 0 σ H) (hx : ∀ j σ' H', Pv j σ' H' → Ex H0 H')
    (hs : ∀ j d x σ' H', ds[j]? = some d → Dp K H' x d → Pv j σ' H' → g x σ' H' fun σ2 H2 => tu { D with nx := Pv (j + 1), ct := Pv (j + 1), bk := D.nx } σ2 H2) (hd : ∀ σ' H', Pv ds.length σ' H' → D.nx σ' H') : tFor (iTup K (tVar i)) g tu D σ H := by
  cases hv with
  | tup hq hl =>
    refine ⟨_, hσ, _, rfl, ⟨_, Evl.ex_t e hq⟩, for_tup Pv h0 (fun j σ' H' _ p => Evl.ex_t (hx j σ' H' p) hq) (fun j x σ' H' hj p => ?_) fun σ' H' p => hd σ' H' (by rw [← dpAll_len hl]; exact p)⟩
    have hj2 : j < ds.length := by rw [← dpAll_len hl]; exact (List.getElem?_eq_some_iff.mp hj).1
    have hd2 : ds[j]? = some ds[j] := List.getElem?_eq_getElem hj2
    exact hs j _ x σ' H' hd2 (dp_ex (hx j σ' H' p) (dpAll_get hl hj hd2)) p
/-- ints, where the operation asks something of them -/
theorem d_opC {C : Int → Int → Prop} {g : Int → Int → Int} {i j : Int} (h : EvD K ta σ H (.int i)) (h2 : EvD K tb σ H (.int j)) (hc : C i j) : EvD K (tOp (rI C fun i j => .int (g i j)) ta tb) σ H (.int (g i j)) := fun H1 a Q q =>
  h H1 a _ fun v H2 x hd => h2 H2 (a.trans x) _ fun w H3 y he => by
    cases hd
    cases he
    exact ⟨i, j, rfl, rfl, hc, q _ H3 (x.trans y) (.int _)⟩
/-- int(x) -/
def rInt1 : List V → Hp → VK → Prop := fun xs H Q => (∃ i, xs = [.int i] ∧ Q (.int i) H) ∨ ∃ k, xs = [.bl k] ∧ Q (.int (if k then 1 else 0)) H
theorem d_int1 {i : Int} (h : EvD K te σ H (.int i)) : EvD K (tCB rInt1 (tCons te tNil)) σ H (.int i) := fun H1 a Q q =>
  h H1 a _ fun v H2 x hd => by
    cases hd
    exact .inl ⟨i, rfl, q _ H2 x (.int i)⟩
/-- xs[j] = a number -/
theorem q_setI {D : Ends} {tz : TS} {i : Nat} {l : Addr} {xs : List V} {j : Nat} {x : Int} (hσ : σ[i]? = some (some (.ref l))) (hl : H l = some (.lst xs)) (h : EvD K te σ H (.int x)) (hi : EvD K tb σ H (.int (j : Int))) (hj : j < xs.length) (k : ∀ H1, Ex H H1 → tz D σ (upd H1 l (.lst (xs.set j (.int x))))) :
    tSeq (tAsg te (gSub (tVar i) tb rSetL)) tz D σ H := Evl.q_setL hl (ev_int h) (Evl.ev_var hσ) (ev_int hi) hj k
theorem s_setI {D : Ends} {i : Nat} {l : Addr} {xs : List V} {j : Nat} {x : Int} (hσ : σ[i]? = some (some (.ref l))) (hl : H l = some (.lst xs)) (h : EvD K te σ H (.int x)) (hi : EvD K tb σ H (.int (j : Int))) (hj : j < xs.length) (k : ∀ H1, Ex H H1 → D.nx σ (upd H1 l (.lst (xs.set j (.int x))))) :
    tAsg te (gSub (tVar i) tb rSetL) D σ H := Evl.s_setL hl (ev_int h) (Evl.ev_var hσ) (ev_int hi) hj k
theorem dp_ints {G : Hp} : ∀ ns : List Int, DpAll K G (ns.map V.int) (ns.map PyData.int)
  | [] => .nil
  | n :: ns => .cons (.int n) (dp_ints ns)
/-- a tuple of two taken apart -/
theorem g_two {i j : Nat} {a b : PyData} {x : V} {k : L2.St → Hp → Prop} (hd : Dp K H x (.tuple [a, b])) (h : ∀ va vb, Dp K H va a → Dp K H vb b → k ((σ.set i (some va)).set j (some vb)) H) : gTup K 2 (gCons (gName i) (gCons (gName j) gNil)) x σ H k := by
  cases hd with
  | tup hs hx =>
    cases hx with
    | cons h1 hx =>
      cases hx with
      | cons h2 hx =>
        cases hx
        exact ⟨_, _, rfl, hs, rfl, _, _, rfl, _, _, rfl, rfl, h _ _ h1 h2⟩
theorem g_three {i j l : Nat} {a b c : PyData} {x : V} {k : L2.St → Hp → Prop} (hd : Dp K H x (.tuple [a, b, c])) (h : ∀ va vb vc, Dp K H va a → Dp K H vb b → Dp K H vc c → k (((σ.set i (some va)).set j (some vb)).set l (some vc)) H) : gTup K 3 (gCons (gName i) (gCons (gName j) (gCons (gName l) gNil))) x σ H k := by
  cases hd with
  | tup hs hx =>
    cases hx with
    | cons h1 hx =>
      cases hx with
      | cons h2 hx =>
        cases hx with
        | cons h3 hx =>
          cases hx
          exact ⟨_, _, rfl, hs, rfl, _, _, rfl, _, _, rfl, _, _, rfl, rfl, h _ _ _ h1 h2 h3⟩
end
section
variable {X : Cx} {e : Expr} {es : List Expr} {te : TE} {ta : TA} {p pos : Pos}
theorem pe_gn {x : Str} {n : Int} (h : Gn X.mg x n) (hg : Gl X x := by rfl) (hd : (x == ("__debug__" : Str)) = false := by decide) : PE X (.Name x pos) (tC (.int n)) := C8.pe_gc hg h hd
/-- isinstance(e, T) -/
theorem pe_isi {x : Str} {T : String} {p2 : Pos} (hb : Bl X.mg) (he : PE X e te) (hg : Gl X "isinstance" := by rfl) (hg2 : Gl X x := by rfl) (hx : x ∈ blts := by decide +kernel) (hv : bootBuiltins x = some (.type T) := by decide +kernel) (hn : x ≠ "__name__" := by decide) (hd : (x == ("__debug__" : Str)) = false := by decide)
    (hs : starEach [e, .Name x p2] X.env = (false, eval e X.env) :: starEach [.Name x p2] X.env := by rfl) : PE X (.Call (.Name "isinstance" p) [e, .Name x p2] [] pos) (tCB (rIsi X.K) (tCons te (tCons (tC (.ty T)) tNil))) :=
  pe_callB call_isi hg (hb _ (by decide +kernel)) (by decide +kernel) (pa_cons he (pa_cons (pe_bltn hg2 (hb _ hx) hv rfl hn hd) pa_nil) hs) (he := hs)
theorem pe_lenQ (hb : Bl X.mg) (he : PE X e te) (hg : Gl X "len" := by rfl) (hs : starEach [e] X.env = (false, eval e X.env) :: starEach [] X.env := by rfl) : PE X (.Call (.Name "len" p) [e] [] pos) (tCB (rLenQ X.K) (tCons te tNil)) :=
  pe_callB call_len_seq hg (hb _ (by decide +kernel)) (by decide +kernel) (pa_cons he pa_nil hs) (he := hs)
theorem pe_lenS (hb : Bl X.mg) (he : PE X e te) (hg : Gl X "len" := by rfl) (hs : starEach [e] X.env = (false, eval e X.env) :: starEach [] X.env := by rfl) : PE X (.Call (.Name "len" p) [e] [] pos) (tCB rLenTx (tCons te tNil)) :=
  pe_callB call_len_str hg (hb _ (by decide +kernel)) (by decide +kernel) (pa_cons he pa_nil hs) (he := hs)
theorem pe_allL (hc : X.calm = true) (hb : Bl X.mg) (he : PE X e te) (hg : Gl X "all" := by rfl) (hs : starEach [e] X.env = (false, eval e X.env) :: starEach [] X.env := by rfl) : PE X (.Call (.Name "all" p) [e] [] pos) (tCB (rAll X.K) (tCons te tNil)) :=
  pe_callB (cr_all hc) hg (hb _ (by decide +kernel)) (by decide +kernel) (pa_cons he pa_nil hs) (he := hs)
theorem pe_anyL (hc : X.calm = true) (hb : Bl X.mg) (he : PE X e te) (hg : Gl X "any" := by rfl) (hs : starEach [e] X.env = (false, eval e X.env) :: starEach [] X.env := by rfl) : PE X (.Call (.Name "any" p) [e] [] pos) (tCB (rAny X.K) (tCons te tNil)) :=
  pe_callB (cr_any hc) hg (hb _ (by decide +kernel)) (by decide +kernel) (pa_cons he pa_nil hs) (he := hs)
theorem pe_tupQ (hb : Bl X.mg) (he : PE X e te) (hg : Gl X "tuple" := by rfl) (hs : starEach [e] X.env = (false, eval e X.env) :: starEach [] X.env := by rfl) : PE X (.Call (.Name "tuple" p) [e] [] pos) (tCB (rTupQ X.K) (tCons te tNil)) :=
  pe_callTy call_tuple_of hg (hb _ (by decide +kernel)) (by decide +kernel) (pa_cons he pa_nil hs) (he := hs)
theorem pe_int1 (hb : Bl X.mg) (he : PE X e te) (hg : Gl X "int" := by rfl) (hs : starEach [e] X.env = (false, eval e X.env) :: starEach [] X.env := by rfl) : PE X (.Call (.Name "int" p) [e] [] pos) (tCB rInt1 (tCons te tNil)) :=
  pe_callTy call_int1 hg (hb _ (by decide +kernel)) (by decide +kernel) (pa_cons he pa_nil hs) (he := hs)
/-- a list comprehension; j: the slot of its one name -/
theorem pe_lcn {elt iter : Expr} {ifs : List Expr} {scope : Scope} {pos : Pos} {wi : TI} {tt : TT} {te : TE} {y : Str} {yp : Pos} (j : Nat) (hN : X.N.Nodup) (hi : PI X (.Name y yp) iter wi)
    (ht : ∀ (s : Shared) (H : Hp) (C : Addr) (cl : List (Str × Addr)) (fp : List Addr), PTs (X.blk s H scope (compEnvC scope cl C X.env) fp) ifs tt)
    (he : ∀ (s : Shared) (H : Hp) (C : Addr) (cl : List (Str × Addr)) (fp : List Addr), PE (X.blk s H scope (compEnvC scope cl C X.env) fp) elt te)
    (hg : ∀ (s : Shared) (H : Hp) (C : Addr) (cl : List (Str × Addr)) (fp : List Addr), PG (X.blk s H scope (compEnvC scope cl C X.env) fp) (.Name y yp) (gName j)) (ok : BlkOk X.N X.env.scope scope [(y, j)]) (hc : X.calm = true)
    (hs : ∀ x, foldedSetIterable iter X.env x = pure x := by intro _; rfl) :
    PE X (.ListComp elt [⟨.Name y yp, iter, ifs, 0⟩] scope pos) (tLc wi (gName j) tt te [j]) := pe_lc (own := [(y, j)]) hc hN hi ok hg ht he hs
/-- y = [..], j the slot of the comprehension's one name -/
theorem ps_setLcn {i : Nat} {y : Str} {py : Pos} {elt iter : Expr} {ifs : List Expr} {scope : Scope} {pos spos : Pos} {wi : TI} {tt : TT} {te : TE} {y2 : Str} {yp : Pos} (j : Nat) (hN : X.N.Nodup) (hi : PI X (.Name y2 yp) iter wi)
    (ht : ∀ (s : Shared) (H : Hp) (C : Addr) (cl : List (Str × Addr)) (fp : List Addr), PTs (X.blk s H scope (compEnvC scope cl C X.env) fp) ifs tt)
    (he : ∀ (s : Shared) (H : Hp) (C : Addr) (cl : List (Str × Addr)) (fp : List Addr), PE (X.blk s H scope (compEnvC scope cl C X.env) fp) elt te)
    (hg : ∀ (s : Shared) (H : Hp) (C : Addr) (cl : List (Str × Addr)) (fp : List Addr), PG (X.blk s H scope (compEnvC scope cl C X.env) fp) (.Name y2 yp) (gName j)) (ok : BlkOk X.N X.env.scope scope [(y2, j)]) (hc : X.calm = true)
    (hy : X.N[i]? = some y) (hyl : X.env.scope.names.lookup y = some .local) (hsw : swapsWith (.ListComp elt [⟨.Name y2 yp, iter, ifs, 0⟩] scope pos) (some (.Name y py)) spos.line X.env = pure true)
    (hs : ∀ x, foldedSetIterable iter X.env x = pure x := by intro _; rfl) :
    PS X (.Assign [.Name y py] (.ListComp elt [⟨.Name y2 yp, iter, ifs, 0⟩] scope pos) spos) (tAsg (tLc wi (gName j) tt te [j]) (gName i)) := ps_setLc (own := [(y2, j)]) hc hN hy hyl hsw hi ok hg ht he hs
end
section
variable {K : PySem.W.Frag} {H : Hp}
theorem dp1 {vs : List V} {a : PyData} (h : DpAll K H vs [a]) : ∃ x, vs = [x] ∧ Dp K H x a := by
  cases h with
  | cons h1 h =>
    cases h
    exact ⟨_, rfl, h1⟩
theorem dp2 {vs : List V} {a b : PyData} (h : DpAll K H vs [a, b]) : ∃ x y, vs = [x, y] ∧ Dp K H x a ∧ Dp K H y b := by
  cases h with
  | cons h1 h =>
    obtain ⟨y, rfl, h2⟩ := dp1 h
    exact ⟨_, _, rfl, h1, h2⟩
theorem dp3 {vs : List V} {a b c : PyData} (h : DpAll K H vs [a, b, c]) : ∃ x y z, vs = [x, y, z] ∧ Dp K H x a ∧ Dp K H y b ∧ Dp K H z c := by
  cases h with
  | cons h1 h =>
    obtain ⟨y, z, rfl, h2, h3⟩ := dp2 h
    exact ⟨_, _, _, rfl, h1, h2, h3⟩
theorem dp4 {vs : List V} {a b c d : PyData} (h : DpAll K H vs [a, b, c, d]) : ∃ x y z u, vs = [x, y, z, u] ∧ Dp K H x a ∧ Dp K H y b ∧ Dp K H z c ∧ Dp K H u d := by
  cases h with
  | cons h1 h =>
    obtain ⟨y, z, u, rfl, h2, h3, h4⟩ := dp3 h
    exact ⟨_, _, _, _, rfl, h1, h2, h3, h4⟩
/-- a text, if at all, of a length that can be told -/
def Tx (d : PyData) : Prop := ∀ z, d = .str z → z.length ≤ 40000
end
end AsKit

set_option maxHeartbeats 4000000
set_option autoImplicit true
/-! len(set(xs)), xs a tuple of tuples of texts and ints. -/
namespace AsSet
open PySem PySem.Spec PyProof.Rows L2

/-- the tuple at b holds the ints and texts ks -/
abbrev Tk (P : Program) (w : World) (h : Heap) (ks : List Key) (b : Addr) : Prop := IsTupleKey (mixKind P w) h ks b
abbrev hk (P : Program) (w : World) (ks : List Key) : Int := tupleKeyHash (mixKind P w) ks
abbrev KT := Addr × List Key

section
variable {P : Program} {w : World} {A : Around} {E : Value → Shared → Prop} {s : Shared}
theorem items_kinds {ks : List Key} {vs : List Value} (h : ItemsAre (mixKind P w) ks vs) : ∀ v ∈ vs, (∃ i t, v = Value.int i t) ∨ ∃ x t, v = Value.str x t := by
  induction h with
  | nil => intro v hv; cases hv
  | @cons k v ks vs h1 _ ih =>
    intro u hu
    rcases List.mem_cons.mp hu with e | hu
    · rw [e]
      rcases keyIs_shape (show keyIs k v = true from h1) with ⟨i, t, _, e2⟩ | ⟨x, t, _, e2⟩
      · exact .inl ⟨i, t, e2⟩
      · exact .inr ⟨x, t, e2⟩
    · exact ih u hu
theorem noClass_item (n : Nat) {v : Value} (h : (∃ i t, v = Value.int i t) ∨ ∃ x t, v = Value.str x t) : ofAClassStatement n v = pure false := by
  rcases h with ⟨i, t, rfl⟩ | ⟨x, t, rfl⟩ <;> cases n <;> rfl
theorem byValue_item (n : Nat) {v : Value} (h : (∃ i t, v = Value.int i t) ∨ ∃ x t, v = Value.str x t) : ∃ b, hashByValue n v = pure b := by
  rcases h with ⟨i, t, rfl⟩ | ⟨x, t, rfl⟩
  · exact ⟨true, by cases n <;> rfl⟩
  · exact ⟨false, by cases n <;> rfl⟩
theorem noClass {ks : List Key} {b : Addr} {Q : Bool → Shared → Prop} (T : Tk P w s.heap ks b) (q : Q false s) : wpAny (model P w) A (ofAClassStatement 8 (.ref b)) Q E s := by
  have ty := T.typeIs
  obtain ⟨o, its, n, ho, _, hd, hi⟩ := T
  have hall := items_kinds hi
  unfold ofAClassStatement
  refine wpAny_bind (wpAny_typeOf ty ?_)
  dsimp only
  simp only [show (("tuple" : String) == "tuple") = true from by decide, if_true, Bool.not_true, Bool.false_eq_true, if_false]
  try refine wpAny_bind (wpAny_pure ?_)
  try simp only [Bool.not_true, Bool.false_eq_true, if_false]
  show wpAny _ _ (seqItems? (.ref b) >>= _) _ _ s
  refine wpAny_bind (wpAny_seqItems ho hd (wpAny_bind ?_))
  show wpAny _ _ (forIn its _ _) _ _ s
  rw [← Array.forIn_toList]
  refine wpAny_forIn_list _ (fun l r z => r.1 = none ∧ z = s ∧ ∀ v ∈ l, (∃ i t, v = Value.int i t) ∨ ∃ x t, v = Value.str x t) _ (fun v l r z hz => ?_) (fun r z hz => ?_) _ _ ⟨rfl, rfl, hall⟩
  · obtain ⟨_, rfl, hv⟩ := hz
    rw [noClass_item _ (hv v List.mem_cons_self)]
    refine wpAny_bind (wpAny_pure ?_)
    simp only [Bool.false_eq_true, if_false]
    exact wpAny_pure ⟨rfl, rfl, fun u hu => hv u (List.mem_cons_of_mem _ hu)⟩
  · obtain ⟨r1, r2⟩ := r
    obtain ⟨e, rfl, _⟩ := hz
    simp only at e
    subst e
    exact wpAny_pure q
theorem byValue {ks : List Key} {b : Addr} {Q : Bool → Shared → Prop} (T : Tk P w s.heap ks b) (q : ∀ c, Q c s) : wpAny (model P w) A (hashByValue 8 (.ref b)) Q E s := by
  have ty := T.typeIs
  obtain ⟨o, its, n, ho, _, hd, hi⟩ := T
  have hall := items_kinds hi
  unfold hashByValue
  refine wpAny_bind (wpAny_specialOf ty F.slot_tuple_hash.lookup ?_)
  show wpAny _ _ (seqItems? (.ref b) >>= _) _ _ s
  refine wpAny_bind (wpAny_seqItems ho hd (wpAny_bind ?_))
  show wpAny _ _ (forIn its _ _) _ _ s
  rw [← Array.forIn_toList]
  refine wpAny_forIn_list _ (fun l r z => r.1 = none ∧ z = s ∧ ∀ v ∈ l, (∃ i t, v = Value.int i t) ∨ ∃ x t, v = Value.str x t) _ (fun v l r z hz => ?_) (fun r z hz => ?_) _ _ ⟨rfl, rfl, hall⟩
  · obtain ⟨_, rfl, hv⟩ := hz
    obtain ⟨c, ec⟩ := byValue_item 7 (hv v List.mem_cons_self)
    rw [ec]
    refine wpAny_bind (wpAny_pure ?_)
    cases c with
    | true =>
      simp only [Bool.not_true, Bool.false_eq_true, if_false]
      exact wpAny_pure ⟨rfl, rfl, fun u hu => hv u (List.mem_cons_of_mem _ hu)⟩
    | false =>
      simp only [Bool.not_false, if_true]
      exact wpAny_pure (show wpAny _ _ (pure false) Q E _ from wpAny_pure (q false))
  · obtain ⟨r1, r2⟩ := r
    obtain ⟨e, rfl, _⟩ := hz
    simp only at e
    subst e
    exact wpAny_pure (q true)
/-- the search among such tuples shows nothing of the table -/
theorem unseen {ks : List Key} {b : Addr} {Q : Bool → Shared → Prop} (T : Tk P w s.heap ks b) : ∀ (ys : List Value), (∀ y ∈ ys, ∃ k c, y = Value.ref c ∧ Tk P w s.heap k c) → Q false s → wpAny (model P w) A (searchCouldBeSeen (.ref b) ys) Q E s := by
  intro ys hys q
  unfold searchCouldBeSeen
  refine wpAny_bind (wpAny_forIn_list _ (fun l r z => r.1 = none ∧ z = s ∧ ∀ y ∈ l, ∃ k c, y = Value.ref c ∧ Tk P w s.heap k c) _ (fun y l r z hz => ?_) (fun r z hz => ?_) _ _ ⟨rfl, rfl, hys⟩)
  · obtain ⟨_, rfl, hy⟩ := hz
    obtain ⟨k, c, rfl, Tc⟩ := hy y List.mem_cons_self
    have keep : (none : Option Bool) = none ∧ z = z ∧ ∀ y ∈ l, ∃ k c, y = Value.ref c ∧ Tk P w z.heap k c := ⟨rfl, rfl, fun u hu => hy u (List.mem_cons_of_mem _ hu)⟩
    dsimp only
    cases hv : (b == c || (carriedByValue (.ref b) && carriedByValue (.ref c))) with
    | true => exact wp_if_pos rfl (wpAny_pure keep)
    | false =>
      refine wp_if_neg (by decide) (wpAny_bind (wpAny_eqIsQuiet_tuple T ?_))
      simp only [Bool.not_true, Bool.false_eq_true, if_false]
      refine wpAny_bind (wpAny_eqIsQuiet_tuple Tc ?_)
      simp only [Bool.not_true, Bool.false_eq_true, if_false]
      refine wpAny_bind (noClass T ?_)
      simp only [Bool.false_eq_true, if_false]
      refine wpAny_bind (noClass Tc ?_)
      simp only [Bool.false_eq_true, if_false]
      exact wpAny_pure keep
  · obtain ⟨r1, r2⟩ := r
    obtain ⟨e, rfl, _⟩ := hz
    simp only at e
    subst e
    exact wpAny_pure q

/-! ### the set's object -/
abbrev hs (P : Program) (w : World) (L : List KT) : List Int := L.map fun p => hk P w p.2
/-- at a stands a set of the tuples L; es its entries, t its table -/
structure TSet (P : Program) (w : World) (h : Heap) (a : Addr) (L : List KT) (es : Array (Int × Value)) (t : SetTable) : Prop where
  obj : ∃ o ep, h.get? a = some o ∧ o.ExactSet ∧ o.data = .set es ep t
  ents : es.toList = L.map fun p => (hk P w p.2, Value.ref p.1)
  tab : TabOk t (hs P w L)
  dist : (L.map (·.2)).Nodup
  tups : ∀ p ∈ L, Tk P w h p.2 p.1
  room : L.length * 5 < t.mask * 3
  few : L.length < 64
variable {a : Addr} {L : List KT} {es : Array (Int × Value)} {t : SetTable}
theorem ents_len (e : es.toList = L.map fun p => (hk P w p.2, Value.ref p.1)) : es.size = L.length := by
  rw [← Array.length_toList, e, List.length_map]
theorem ents_at (e : es.toList = L.map fun p => (hk P w p.2, Value.ref p.1)) {i : Nat} {p : KT} (h : L[i]? = some p) : es[i]? = some (hk P w p.2, Value.ref p.1) := by
  rw [← Array.getElem?_toList, e, List.getElem?_map, h]
  rfl
theorem tab_len (T : TabOk t (hs P w L)) : t.place.toList.length = L.length := by
  rw [Array.length_toList, T.sz, List.length_map]
theorem fits_of (e : es.size = L.length) (T : TabOk t (hs P w L)) (h : L.length ≤ t.mask) : t.fits es.size = true := by
  have z : t.place.size = L.length := by
    have q := T.sz
    rwa [List.length_map] at q
  unfold SetTable.fits SetTable.fill
  rw [T.dm, Bool.and_eq_true, beq_iff_eq, decide_eq_true_eq]
  exact ⟨z.trans e.symm, by rw [z]; exact h⟩
theorem TSet.fit (R : TSet P w s.heap a L es t) : t.fits es.size = true := fits_of (ents_len R.ents) R.tab (by have := R.room; omega)

/-- the c-th place asked for the hash h -/
abbrev pr (t : SetTable) (h : Int) (c : Nat) : SetTable.Probe := nth t.mask (runAt t.mask (SetTable.bits h % (t.mask + 1)) (SetTable.bits h)) c
theorem pr_add (t : SetTable) (h : Int) (c q : Nat) : nth t.mask (pr t h c) q = pr t h (c + q) := (nth_add t.mask c _ q).symm
theorem pr_way (t : SetTable) (h : Int) (c : Nat) : (pr t h c).j = way t.mask h c := rfl
theorem pr_dummy (t : SetTable) (h : Int) (c : Nat) : (pr t h c).dummy = none := by
  have go : ∀ (m n : Nat) (p : SetTable.Probe), p.dummy = none → (nth m p n).dummy = none := fun m n => by
    induction n with
    | zero => exact fun p e => e
    | succ n ih =>
      refine fun p e => ih (adv m p) ?_
      unfold adv
      split <;> exact e
  exact go _ _ _ rfl

/-- what the search for k finds, from the c-th place on: N the first free place -/
theorem find_from (R : TSet P w s.heap a L es t) {x : Addr} {k : List Key} (T : Tk P w s.heap k x) (hu : A.units < cLine) {N : Nat} (hN : N < 10 * SetTable.turns t.mask) (hfree : way t.mask (hk P w k) N ∉ t.place.toList)
    (hocc : ∀ c, c < N → way t.mask (hk P w k) c ∈ t.place.toList) {Q : SetFound → Shared → Prop} (yes : k ∈ L.map (·.2) → Q (.there none) s) (no : k ∉ L.map (·.2) → Q (.free (way t.mask (hk P w k) N) false) s) (f : Nat) :
    ∀ (c : Nat) (st : Option SetTable.Probe), st.getD (t.probeStart (hk P w k)) = pr t (hk P w k) c → c ≤ N → N - c < f →
      (∀ (i : Nat) (p : KT), L[i]? = some p → p.2 = k → ∃ c', c ≤ c' ∧ c' < N ∧ t.place.toList[i]? = some (way t.mask (hk P w k) c')) → wpAny (model P w) A (setSearchFrom a (.ref x) (hk P w k) true f st) Q E s := by
  obtain ⟨o, ep, ho, hex, hd⟩ := R.obj
  induction f with
  | zero => exact fun c st _ _ z _ => absurd z (Nat.not_lt_zero _)
  | succ f ih =>
    intro c st hst hc hf hthere
    have gw : ¬ t.gaveWay = true := by
      unfold SetTable.gaveWay
      rw [mask_odd R.tab.mok]
      decide
    rw [setSearchFrom_succ]
    refine wpAny_bind (wpAny_setState_of ho hd R.fit ?_)
    dsimp only
    refine wp_if_neg gw ?_
    try refine wpAny_bind (wpAny_pure ?_)
    have look : ∀ (i : Nat) (p : KT), L[i]? = some p → (es[i]?.map (·.1)).getD 0 = hk P w p.2 := fun i p hp => by rw [ents_at R.ents hp]; rfl
    have ways := go_spec t R.tab.ris R.tab.dm (fun (i : Nat) => (es[i]?.map (·.1)).getD 0) (hk P w k) (10 * SetTable.turns t.mask) (N - c) (pr t (hk P w k) c) (pr_dummy _ _ _) (by omega)
      (fun q hq => by rw [pr_add, pr_way]; exact hocc _ (by omega)) (by rw [pr_add, pr_way, Nat.add_sub_cancel' hc]; exact hfree)
    -- a place of k is not left behind
    have notyet : ∀ (q : Nat), (∀ (k' i' : Nat), k' < q → t.place.toList[i']? = some (nth t.mask (pr t (hk P w k) c) k').j → (es[i']?.map (·.1)).getD 0 ≠ hk P w k) → ∀ (i : Nat) (p : KT), L[i]? = some p → p.2 = k → ∃ c', c + q ≤ c' ∧ c' < N ∧ t.place.toList[i]? = some (way t.mask (hk P w k) c') := fun q hq i p hp ek => by
      obtain ⟨c', h1, h2, h3⟩ := hthere i p hp ek
      refine ⟨c', Nat.le_of_not_lt fun z => ?_, h2, h3⟩
      refine hq (c' - c) i (by omega) ?_ (by rw [look i p hp, ek])
      rw [pr_add, pr_way, Nat.add_sub_cancel' h1]
      exact h3
    rcases ways with ⟨q, i, hq, hi, _, hno, hgo⟩ | ⟨hno, hgo⟩
    · have hp1 : t.probe (fun (i : Nat) => (es[i]?.map (·.1)).getD 0) (hk P w k) (st.getD (t.probeStart (hk P w k))) = some (.candidate (way t.mask (hk P w k) (c + q)) i (pr t (hk P w k) (c + (q + 1)))) := by
        have z : t.probe (fun (i : Nat) => (es[i]?.map (·.1)).getD 0) (hk P w k) (pr t (hk P w k) c) = _ := hgo
        rw [hst, z, pr_add, pr_add]
      rw [hp1]
      dsimp only
      rw [pr_add, pr_way] at hi
      have hil : i < L.length := by
        have z := (List.getElem?_eq_some_iff.mp hi).1
        rwa [tab_len R.tab] at z
      obtain ⟨p, hp⟩ : ∃ p, L[i]? = some p := ⟨_, List.getElem?_eq_getElem hil⟩
      have pm := List.mem_of_getElem? hp
      have live : t.slot (way t.mask (hk P w k) (c + q)) = .live i := slot_live R.tab.ris hi
      have main : wpAny (model P w) A (searchRest a (.ref x) (hk P w k) true f es t (way t.mask (hk P w k) (c + q)) i (pr t (hk P w k) (c + (q + 1)))) Q E s := by
        unfold searchRest
        rw [ents_at R.ents hp]
        dsimp only
        refine wpAny_bind (wpAny_holding (wpAny_eqBool_tuple hu (R.tups p pm) T (wpAny_bind (wpAny_setState_of ho hd R.fit ?_))))
        dsimp only
        cases hb : decide (p.2 = k) with
        | true =>
          have ek := of_decide_eq_true hb
          refine wp_if_pos (by simp) (wpAny_pure (yes ?_))
          rw [← ek]
          exact List.mem_map_of_mem (f := (·.2)) pm
        | false =>
          have nk := of_decide_eq_false hb
          refine wp_if_neg (by simp) ?_
          try refine wpAny_bind (wpAny_pure ?_)
          rw [show t.sameMemory t.moves t.mask = some true from if_pos (beq_self_eq_true _)]
          dsimp only
          simp only [if_true, live, ents_at R.ents hp]
          refine wpAny_bind (wpAny_isSame_ref_self (wpAny_bind (wpAny_pure ?_)))
          simp only [if_true]
          refine wp_if_neg (by simp) (ih (c + (q + 1)) _ rfl (by omega) (by omega) fun j p' hp' ek => ?_)
          obtain ⟨c', h1, h2, h3⟩ := notyet q hno j p' hp' ek
          refine ⟨c', ?_, h2, h3⟩
          rcases Nat.lt_or_ge (c + q) c' with z | z
          · omega
          · exfalso
            have ec : c' = c + q := Nat.le_antisymm z h1
            rw [ec] at h3
            have l2 := slot_live R.tab.ris h3
            rw [live] at l2
            injection l2 with e2
            rw [← e2, hp] at hp'
            exact nk ((congrArg Prod.snd (Option.some.inj hp')).trans ek)
      by_cases hl : t.led = true
      · refine wp_if_neg (by simp [hl]) ?_
        try refine wpAny_bind (wpAny_pure ?_)
        exact main
      · refine wp_if_pos (by simp [hl]) (wpAny_bind (unseen T _ (fun y hy => ?_) ?_))
        · obtain ⟨e, he, ey⟩ := List.mem_map.mp hy
          have he2 : e ∈ es.toList := by
            have z : e ∈ es ∧ e.1 = hk P w k := by simpa using he
            simpa using z.1
          rw [R.ents] at he2
          obtain ⟨p2, hp2, e2⟩ := List.mem_map.mp he2
          exact ⟨p2.2, p2.1, by rw [← ey, ← e2], R.tups p2 hp2⟩
        · refine wp_if_neg (by decide) ?_
          try refine wpAny_bind (wpAny_pure ?_)
          exact main
    · have hp1 : t.probe (fun (i : Nat) => (es[i]?.map (·.1)).getD 0) (hk P w k) (st.getD (t.probeStart (hk P w k))) = some (.empty (way t.mask (hk P w k) N) none) := by
        have z : t.probe (fun (i : Nat) => (es[i]?.map (·.1)).getD 0) (hk P w k) (pr t (hk P w k) c) = _ := hgo
        rw [hst, z, pr_add, pr_way, Nat.add_sub_cancel' hc]
      rw [hp1]
      dsimp only
      refine wpAny_pure (no fun hm => ?_)
      obtain ⟨p, pm, ek⟩ := List.mem_map.mp hm
      obtain ⟨i, hil, ei⟩ := List.getElem_of_mem pm
      have hp : L[i]? = some p := by rw [List.getElem?_eq_getElem hil, ei]
      obtain ⟨c', h1, h2, h3⟩ := notyet (N - c) hno i p hp ek
      omega
/-- the search that adding asks for -/
theorem find_all (R : TSet P w s.heap a L es t) {x : Addr} {k : List Key} (T : Tk P w s.heap k x) (hu : A.units < cLine) {Q : SetFound → Shared → Prop} (yes : k ∈ L.map (·.2) → Q (.there none) s)
    (no : ∀ N, k ∉ L.map (·.2) → way t.mask (hk P w k) N ∉ t.place.toList → (∀ c, c < N → way t.mask (hk P w k) c ∈ t.place.toList) → Q (.free (way t.mask (hk P w k) N) false) s) :
    wpAny (model P w) A (setSearch a (.ref x) (hk P w k) true) Q E s := by
  have hr := R.room
  obtain ⟨N, hN, hfree, hocc⟩ := R.tab.first (by rw [List.length_map]; omega) (hk P w k)
  have small : 10 * SetTable.turns t.mask ≤ 1420 := by
    unfold SetTable.turns
    rcases R.tab.mok with e | e | e <;> omega
  unfold setSearch
  refine find_from R T hu hN hfree hocc yes (fun n => no N n hfree hocc) 100000 0 none rfl (Nat.zero_le _) (by omega) fun i p hp ek => ?_
  have hil : i < t.place.toList.length := by
    rw [tab_len R.tab]
    exact (List.getElem?_eq_some_iff.mp hp).1
  have hj := List.getElem?_eq_getElem hil
  obtain ⟨c, hc, e⟩ := R.tab.before hfree (show (hs P w L)[i]? = some (hk P w k) by rw [List.getElem?_map, hp, ← ek]; rfl) hj
  exact ⟨c, Nat.zero_le _, hc, by rw [hj, e]⟩

/-! ### the table laid anew -/
theorem take_all (L : List KT) : ∀ n, n ≤ L.length → (List.range n).filterMap (fun i => L[i]?) = L.take n
  | 0, _ => rfl
  | n + 1, h => by
    have hn : L[n]? = some L[n] := List.getElem?_eq_getElem h
    rw [List.range_succ, List.filterMap_append, take_all L n (Nat.le_of_lt h), List.take_add_one, hn, List.filterMap_cons_some hn]
    rfl
theorem reorder (L : List KT) (es : Array (Int × Value)) (order : Array Nat) (e : es.toList = L.map fun p => (hk P w p.2, Value.ref p.1)) (hp : order.toList.Perm (List.range L.length)) :
    ∃ L2 : List KT, L2.Perm L ∧ (order.filterMap (es[·]?)).toList = (L2.map fun p => (hk P w p.2, Value.ref p.1)) ∧ hs P w L2 = order.toList.map fun i => (es.map (·.1)).getD i 0 := by
  have each : ∀ l : List Nat, (∀ i ∈ l, i < L.length) → l.filterMap (fun i => es[i]?) = ((l.filterMap fun i => L[i]?).map fun p => (hk P w p.2, Value.ref p.1)) ∧ hs P w (l.filterMap fun i => L[i]?) = l.map fun i => (es.map (·.1)).getD i 0 := by
    intro l
    induction l with
    | nil => exact fun _ => ⟨rfl, rfl⟩
    | cons i l ih =>
      intro hl
      have hi := hl i List.mem_cons_self
      obtain ⟨h1, h2⟩ := ih fun j hj => hl j (List.mem_cons_of_mem _ hj)
      have a1 : L[i]? = some L[i] := List.getElem?_eq_getElem hi
      have a2 := ents_at e a1
      have a3 : (es.map (·.1)).getD i 0 = hk P w (L[i]).2 := by
        have z : (es.map (·.1))[i]? = some (hk P w (L[i]).2) := by
          rw [Array.getElem?_map, a2]
          rfl
        simp [Array.getD_eq_getD_getElem?, z]
      constructor
      · rw [List.filterMap_cons_some a2, List.filterMap_cons_some a1, h1]
        rfl
      · rw [List.filterMap_cons_some a1, List.map_cons, a3, ← h2]
        rfl
  obtain ⟨h1, h2⟩ := each order.toList fun i hi => List.mem_range.mp (hp.mem_iff.mp hi)
  refine ⟨order.toList.filterMap fun i => L[i]?, ?_, ?_, h2⟩
  · have z := hp.filterMap (fun i => L[i]?)
    rw [take_all L L.length (Nat.le_refl _), List.take_length] at z
    exact z
  · rw [← h1]
    first
      | rw [Array.toList_filterMap]
      | simp
/-- an object other than the set's -/
theorem tk_same {h h' : Heap} {k : List Key} {b : Addr} {o : Obj} {ep : Nat} (T : Tk P w h k b) (ho : h.get? a = some o) (hd : o.data = .set es ep t) (sb : Heap.SameBut a h h') : Tk P w h' k b := by
  obtain ⟨o2, its, n, h2, hc, hdt, hi⟩ := T
  refine ⟨o2, its, n, (sb.2 b fun z => ?_).trans h2, hc, hdt, hi⟩
  rw [z, ho] at h2
  rw [Option.some.inj h2, hdt] at hd
  cases hd
theorem relay {o : Obj} {ep : Nat} (ho : s.heap.get? a = some o) (hex : o.ExactSet) (hd : o.data = .set es ep t) (he : es.toList = L.map fun p => (hk P w p.2, Value.ref p.1)) (hfit : t.fits es.size = true) (nd : (L.map (·.2)).Nodup) (tp : ∀ p ∈ L, Tk P w s.heap p.2 p.1) (few : L.length < 64)
    {want M : Nat} (hw : SetTable.sizeAbove want - 1 = M) (hM : MaskOk M) (hw2 : SetTable.sizeAbove want ≤ 128) (hn : L.length * 5 < M * 3) {Q : Unit → Shared → Prop}
    (q : ∀ h' L' es' t', Heap.SameBut a s.heap h' → TSet P w h' a L' es' t' → L'.Perm L → Q () { s with heap := h' }) : wpAny (model P w) A (setRelay a want) Q E s := by
  have hz := ents_len he
  obtain ⟨t', order, e1, pm, T, em, _, _, _⟩ := relaid_ok t (hs := es.map (·.1)) (wanted := want) hw hM (by rw [Array.size_map, hz]; omega)
  rw [Array.size_map, hz] at pm
  obtain ⟨L2, p2, r2, r3⟩ := reorder L es order he pm
  rw [← r3] at T
  have hz2 : (order.filterMap (es[·]?)).size = es.size := by rw [hz, ents_len r2, p2.length_eq]
  rw [setRelay_eq]
  refine wpAny_bind (wpAny_setState_of ho hd hfit ?_)
  dsimp only
  refine wp_if_neg (by rw [sizeLine_eq]; omega) ?_
  try refine wpAny_bind (wpAny_pure ?_)
  rw [e1]
  dsimp only
  refine wpAny_bind (wp_if_neg (by rw [hz2]; simp) ?_)
  try refine wpAny_bind (wpAny_pure ?_)
  refine wpAny_pure ?_
  dsimp only
  have sb : Heap.SameBut a s.heap (s.heap.update a (Obj.putSet (order.filterMap (es[·]?)) t')) := Heap.SameBut.update ..
  refine wpAny_storeSet_of ho hd (q _ L2 (order.filterMap (es[·]?)) t' sb ⟨⟨_, _, store_at ho hd, ⟨hex.1, hex.2.1, hex.2.2⟩, rfl⟩, r2, T, (p2.map (·.2)).nodup_iff.mpr nd, fun p hp => tk_same (tp p (p2.mem_iff.mp hp)) ho hd sb, ?_, ?_⟩ p2) (by rw [hz2, hz, sizeLine_eq]; omega)
  · rw [p2.length_eq, em]
    exact hn
  · rw [p2.length_eq]
    exact few

/-! ### adding -/
theorem mid_perm {α : Type} (L : List α) (i : Nat) (x : α) : (L.take i ++ x :: L.drop i).Perm (x :: L) := by
  have z : (L.take i ++ x :: L.drop i).Perm (x :: (L.take i ++ L.drop i)) := List.perm_middle
  rwa [List.take_append_drop] at z
theorem add (R : TSet P w s.heap a L es t) {x : Addr} {k : List Key} (T : Tk P w s.heap k x) (hu : A.units < cLine) (hfew : L.length + 1 < 64) {Q : Bool → Shared → Prop}
    (q : ∀ b h' L' es' t', Heap.SameBut a s.heap h' → TSet P w h' a L' es' t' → (k ∈ L.map (·.2) → L' = L) → (k ∉ L.map (·.2) → L'.Perm ((x, k) :: L)) → Q b { s with heap := h' }) :
    wpAny (model P w) A (setAddHashed a (.ref x) (hk P w k)) Q E s := by
  obtain ⟨o, ep, ho, hex, hd⟩ := R.obj
  have hz := ents_len R.ents
  have hr := R.room
  unfold setAddHashed
  refine wpAny_holding ?_
  rw [show (100000 : Nat) = 99999 + 1 from rfl, setAddHashedIn_succ]
  refine wpAny_bind (wpAny_setState_of ho hd R.fit ?_)
  dsimp only
  refine wp_if_neg (by simp [byScan, Value.scannable]) ?_
  try refine wpAny_bind (wpAny_pure ?_)
  refine wpAny_bind (find_all R T hu (fun hm => ?_) fun N hm hfree hocc => ?_)
  · dsimp only
    exact wpAny_pure (q false s.heap L es t (Heap.SameBut.refl a s.heap) R (fun _ => rfl) fun z => absurd hm z)
  · dsimp only
    refine wpAny_bind (wpAny_setState_of ho hd R.fit ?_)
    dsimp only
    obtain ⟨q1, q2, q3, q4, _, _, _, _, q9⟩ := R.tab.put hfree hocc
    obtain ⟨t1, i⟩ : SetTable × Nat := ⟨(t.put (way t.mask (hk P w k) N)).1, (t.put (way t.mask (hk P w k) N)).2⟩
    generalize t.put (way t.mask (hk P w k) N) = pt at q1 q3 q4 q9 ⊢
    obtain ⟨u, j⟩ := pt
    dsimp only at q1 q3 q4 q9 ⊢
    subst q1
    generalize SetTable.below t.place (way t.mask (hk P w k) N) = j at q2 q3 ⊢
    have pm := mid_perm L j (x, k)
    have ins : (SetTable.insertAt es j (hk P w k, Value.ref x)).toList = ((L.take j ++ (x, k) :: L.drop j).map fun p => (hk P w p.2, Value.ref p.1)) := by
      rw [SetTable.toList_insertAt, R.ents, List.map_append, List.map_cons, List.map_take, List.map_drop]
    have hss : hs P w (L.take j ++ (x, k) :: L.drop j) = (hs P w L).take j ++ hk P w k :: (hs P w L).drop j := by
      show List.map _ _ = _
      rw [List.map_append, List.map_cons, List.map_take, List.map_drop]
    have T1 : TabOk u (hs P w (L.take j ++ (x, k) :: L.drop j)) := by rw [hss]; exact q3
    have nd1 : ((L.take j ++ (x, k) :: L.drop j).map (·.2)).Nodup := (pm.map (·.2)).nodup_iff.mpr (List.nodup_cons.mpr ⟨hm, R.dist⟩)
    have hlen : (L.take j ++ (x, k) :: L.drop j).length = L.length + 1 := pm.length_eq
    generalize L.take j ++ (x, k) :: L.drop j = L1 at pm ins T1 nd1 hlen
    generalize SetTable.insertAt es j (hk P w k, Value.ref x) = es1 at ins ⊢
    have hz1 : es1.size = L.length + 1 := (ents_len ins).trans hlen
    have fill1 : u.fill = L.length + 1 := by rw [q9, List.length_map]
    -- whatever the table is told of the key's hash
    have rest : ∀ (v : SetTable), v.place = u.place → v.dummies = u.dummies → v.mask = u.mask → wpAny (model P w) A (do
        storeSet a es1 v
        if (!false && v.tooFull) = true then setRelay a (SetTable.grown (es.size + 1))
        return true) Q E s := by
      intro v v1 v2 v3
      have Tv : TabOk v (hs P w L1) := by
        refine ⟨by rw [v1]; exact T1.ris, by rw [v2]; exact T1.dm, by rw [v1]; exact T1.sz, by rw [v3]; exact T1.mok, fun y hy => ?_, fun i' h' j' a1 a2 => ?_⟩
        · rw [v1] at hy
          rw [v3]
          exact T1.bd y hy
        · rw [v1] at a2 ⊢
          rw [v3]
          exact T1.reach i' h' j' a1 a2
      have fillv : v.fill = L.length + 1 := by
        unfold SetTable.fill
        rw [v1, v2]
        exact fill1
      have sb : Heap.SameBut a s.heap (s.heap.update a (Obj.putSet es1 v)) := Heap.SameBut.update ..
      have ho1 := store_at (es' := es1) (t' := v) ho hd
      refine wpAny_bind (wpAny_storeSet_of ho hd ?_ (by rw [hz1, sizeLine_eq]; omega))
      generalize s.heap.update a (Obj.putSet es1 v) = h1 at sb ho1 ⊢
      have tp1 : ∀ p ∈ L1, Tk P w h1 p.2 p.1 := fun p hp => by
        rcases List.mem_cons.mp (pm.mem_iff.mp hp) with e | hp
        · rw [e]
          exact tk_same T ho hd sb
        · exact tk_same (R.tups p hp) ho hd sb
      have few1 : L1.length < 64 := by rw [hlen]; exact hfew
      cases hf : v.tooFull with
      | false =>
        simp only [Bool.not_false, Bool.and_false, Bool.false_eq_true, if_false]
        have roomy : L1.length * 5 < v.mask * 3 := by
          have z := hf
          unfold SetTable.tooFull at z
          rw [decide_eq_false_iff_not, fillv] at z
          rw [hlen]
          omega
        first
          | exact wpAny_pure (q true h1 L1 es1 v sb ⟨⟨_, _, ho1, ⟨hex.1, hex.2.1, hex.2.2⟩, rfl⟩, ins, Tv, nd1, tp1, roomy, few1⟩ (fun z => absurd z hm) fun _ => pm)
          | exact wpAny_bind (wpAny_pure (wpAny_pure (q true h1 L1 es1 v sb ⟨⟨_, _, ho1, ⟨hex.1, hex.2.1, hex.2.2⟩, rfl⟩, ins, Tv, nd1, tp1, roomy, few1⟩ (fun z => absurd z hm) fun _ => pm)))
      | true =>
        simp only [Bool.not_false, Bool.and_true, if_true]
        have full : (L.length + 1) * 5 ≥ v.mask * 3 := by
          have z := hf
          unfold SetTable.tooFull at z
          rw [decide_eq_true_eq, fillv] at z
          exact z
        have hv : v.mask = t.mask := v3.trans q4
        rw [hz]
        have two : (t.mask = 7 ∧ L.length = 4) ∨ (t.mask = 31 ∧ L.length = 18) := by
          rw [hv] at full
          rcases R.tab.mok with e | e | e
          · left; rw [e] at full hr; exact ⟨e, by omega⟩
          · right; rw [e] at full hr; exact ⟨e, by omega⟩
          · exfalso; rw [e] at full; omega
        have go : ∀ M, SetTable.sizeAbove (SetTable.grown (L.length + 1)) - 1 = M → MaskOk M → SetTable.sizeAbove (SetTable.grown (L.length + 1)) ≤ 128 → (L.length + 1) * 5 < M * 3 →
            wpAny (model P w) A (setRelay a (SetTable.grown (L.length + 1))) (fun _ s' => wpAny (model P w) A (pure true) Q E s') E { s with heap := h1 } := fun M a1 a2 a3 a4 =>
          relay (s := { s with heap := h1 }) ho1 ⟨hex.1, hex.2.1, hex.2.2⟩ rfl ins (fits_of (ents_len ins) Tv (by rw [hlen, hv]; rcases two with ⟨e, e2⟩ | ⟨e, e2⟩ <;> omega)) nd1 tp1 few1 a1 a2 a3 (by rw [hlen]; exact a4)
            fun h2 L2 es2 t2 sb2 R2 pm2 => wpAny_pure (q true h2 L2 es2 t2 (sb.trans sb2) R2 (fun z => absurd z hm) fun _ => pm2.trans pm)
        rcases two with ⟨_, e2⟩ | ⟨_, e2⟩
        · exact wpAny_bind (go 31 (by rw [e2, size_20]) (.inr (.inl rfl)) (by rw [e2, size_20]; decide) (by omega))
        · exact wpAny_bind (go 127 (by rw [e2, size_76]) (.inr (.inr rfl)) (by rw [e2, size_76]; decide) (by omega))
    have both : ∀ c : Bool, (if c = true then u else { u with plain := false }).place = u.place ∧ (if c = true then u else { u with plain := false }).dummies = u.dummies ∧ (if c = true then u else { u with plain := false }).mask = u.mask := fun c => by
      cases c <;> exact ⟨rfl, rfl, rfl⟩
    split
    · refine wpAny_bind (byValue T fun c => ?_)
      exact rest _ (both c).1 (both c).2.1 (both c).2.2
    · refine wpAny_bind (wpAny_pure ?_)
      exact rest _ (both true).1 (both true).2.1 (both true).2.2

/-! ### all the items, one after another -/
/-- what the set holds of the first i of ks -/
structure Took (ks : List KT) (i : Nat) (L : List KT) : Prop where
  same : ∀ k, k ∈ L.map (·.2) ↔ k ∈ (ks.take i).map (·.2)
  sub : ∀ p ∈ L, p ∈ ks.take i
  le : L.length ≤ i
  full : L.length = i ↔ ((ks.take i).map (·.2)).Nodup
theorem Took.start (ks : List KT) : Took ks 0 [] := ⟨fun _ => Iff.rfl, fun p h => (nomatch h), Nat.le_refl _, ⟨fun _ => List.nodup_nil, fun _ => rfl⟩⟩
theorem take_more {ks : List KT} {i : Nat} {p : KT} (h : ks[i]? = some p) : (ks.take (i + 1)).map (·.2) = (ks.take i).map (·.2) ++ [p.2] := by
  rw [List.take_add_one, h, List.map_append]
  rfl
theorem nodup_snoc {α : Type} {l : List α} {x : α} : (l ++ [x]).Nodup ↔ l.Nodup ∧ x ∉ l := by
  rw [List.nodup_append]
  constructor
  · rintro ⟨h1, _, h3⟩
    exact ⟨h1, fun hx => h3 x hx x (List.mem_singleton.mpr rfl) rfl⟩
  · rintro ⟨h1, h2⟩
    refine ⟨h1, List.pairwise_singleton _ _, fun y hy z hz e => ?_⟩
    rw [List.mem_singleton.mp hz] at e
    exact h2 (e ▸ hy)
theorem Took.old {ks L : List KT} {i : Nat} {p : KT} (g : Took ks i L) (h : ks[i]? = some p) (hm : p.2 ∈ L.map (·.2)) : Took ks (i + 1) L := by
  have e := take_more h
  refine ⟨fun k => ?_, fun q hq => ?_, Nat.le_succ_of_le g.le, ?_⟩
  · rw [e, List.mem_append, List.mem_singleton, g.same k]
    exact ⟨.inl, fun z => z.elim id fun z => by rw [z]; exact (g.same _).mp hm⟩
  · rw [List.take_add_one]
    exact List.mem_append_left _ (g.sub q hq)
  · rw [e, nodup_snoc]
    exact ⟨fun z => absurd z (Nat.ne_of_lt (Nat.lt_succ_of_le g.le)), fun z => absurd ((g.same _).mp hm) z.2⟩
theorem Took.new {ks L L' : List KT} {i : Nat} {p : KT} (g : Took ks i L) (h : ks[i]? = some p) (hm : p.2 ∉ L.map (·.2)) (pm : L'.Perm (p :: L)) : Took ks (i + 1) L' := by
  have e := take_more h
  refine ⟨fun k => ?_, fun q hq => ?_, by rw [pm.length_eq]; exact Nat.succ_le_succ g.le, ?_⟩
  · rw [e, List.mem_append, List.mem_singleton, (pm.map (·.2)).mem_iff, List.map_cons, List.mem_cons, g.same k]
    exact or_comm
  · rw [List.take_add_one, h]
    rcases List.mem_cons.mp (pm.mem_iff.mp hq) with z | z
    · exact List.mem_append_right _ (by rw [z]; exact List.mem_singleton.mpr rfl)
    · exact List.mem_append_left _ (g.sub q z)
  · rw [e, nodup_snoc, pm.length_eq, List.length_cons, ← g.full]
    have z : p.2 ∉ (ks.take i).map (·.2) := fun q => hm ((g.same _).mpr q)
    constructor
    · exact fun q => ⟨by omega, z⟩
    · exact fun q => by rw [q.1]

theorem tk_keep {h h' : Heap} {k : List Key} {b : Addr} (T : Tk P w h k b) (hk' : ∀ c o, h.get? c = some o → h'.get? c = some o) : Tk P w h' k b := let ⟨o, its, n, h2, r⟩ := T; ⟨o, its, n, hk' b o h2, r⟩
theorem TSet.keep {h h' : Heap} (R : TSet P w h a L es t) (ha : ∀ o, h.get? a = some o → h'.get? a = some o) (ht : ∀ p ∈ L, Tk P w h' p.2 p.1) : TSet P w h' a L es t :=
  let ⟨o, ep, h2, r⟩ := R.obj
  ⟨⟨o, ep, ha o h2, r⟩, R.ents, R.tab, R.dist, ht, R.room, R.few⟩
theorem tset_new {h : Heap} {led : Bool} (ho : h.get? a = some { cls := .type "set", dict := none, data := .set #[] 0 (.fresh 0 0 led) }) : TSet P w h a [] #[] (.fresh 0 0 led) where
  obj := ⟨_, _, ho, ⟨rfl, rfl, rfl⟩, rfl⟩
  ents := rfl
  tab := ⟨List.Pairwise.nil, rfl, rfl, .inl rfl, fun _ z => (nomatch z), fun i h j z => (by simp at z)⟩
  dist := List.nodup_nil
  tups := fun _ z => (nomatch z)
  room := (by decide : 0 * 5 < 7 * 3)
  few := (by decide : 0 < 64)

/-- the loop that puts the items in -/
theorem fill {I S : Addr} {fp wr : List Addr} {G : Array GenState → Array GenState → Prop} {n : Nat} {Pv : Nat → Value → Prop} {Sv : Nat → Shared → Prop} {R : Result → Shared → Prop} (W : WalksS P w A.in1 I fp wr G n Pv Sv) (hS : S ∉ fp) (ks : List KT) (hn : n = ks.length) (hfew : ks.length < 64)
    (val : ∀ i v, Pv i v → ∃ p, ks[i]? = some p ∧ v = .ref p.1) (h0 : Heap) (hks : ∀ p ∈ ks, Tk P w h0 p.2 p.1) (nS : h0.get? S = none) (nw : ∀ b ∈ wr, h0.get? b = none) (hu : A.in1.units < cLine) (left : Nat) :
    ∀ (i : Nat) (z : Shared), n - i = left → i ≤ n → Sv i z → (∀ b o, h0.get? b = some o → z.heap.get? b = some o) → (∃ L es t, TSet P w z.heap S L es t ∧ Took ks i L) →
      (∀ z' L es t, Moved (S :: wr) G z z' → TSet P w z'.heap S L es t → Took ks n L → (∀ b o, h0.get? b = some o → z'.heap.get? b = some o) → R (.ok (.ret .none)) z') →
      codeAny (model P w) A (.builtin "set.update.loop" ⟨[.ref S, .ref I], []⟩) R z := by
  have nSw : S ∉ wr := fun z => hS (W.sub _ z)
  have wsub : ∀ b ∈ wr, b ∈ S :: wr := fun b hb => List.mem_cons_of_mem _ hb
  have kept : ∀ {z z' : Shared}, Moved wr G z z' → (∀ b o, h0.get? b = some o → z.heap.get? b = some o) → ∀ b o, h0.get? b = some o → z'.heap.get? b = some o := fun m k b o e => m.heap b o (fun hb => by rw [nw b hb] at e; cases e) (k b o e)
  have still : ∀ {z z' : Shared} {i : Nat} {L : List KT} {es t}, Moved wr G z z' → (∀ b o, h0.get? b = some o → z'.heap.get? b = some o) → Took ks i L → TSet P w z.heap S L es t → TSet P w z'.heap S L es t := fun m k g R =>
    R.keep (fun o e => m.heap S o nSw e) fun p hp => tk_keep (hks p (List.mem_of_mem_take (g.sub p hp))) k
  induction left with
  | zero =>
    intro i z hl hi hst hkeep ⟨L, es, t, hset, g⟩ fin
    obtain rfl : i = n := by omega
    refine codeAny_builtin PyProof.Rows.F.entry_set_update_loop ?_
    rw [Around.under_plainId PyProof.Rows.F.plain_set_update_loop _]
    show wpAny _ A.in1 (pyNext (.ref I) >>= _) _ _ z
    refine wpAny_bind (W.done z _ _ hst fun z' m => ?_)
    have k' := kept m hkeep
    exact wpAny_pure (fin z' L es t (m.mono wsub) (still m k' g hset) g k')
  | succ left ih =>
    intro i z hl hi hst hkeep ⟨L, es, t, hset, g⟩ fin
    have hin : i < n := by omega
    refine codeAny_builtin PyProof.Rows.F.entry_set_update_loop ?_
    rw [Around.under_plainId PyProof.Rows.F.plain_set_update_loop _]
    show wpAny _ A.in1 (pyNext (.ref I) >>= _) _ _ z
    refine wpAny_bind (W.item i z _ _ hin hst fun v z' hv hst' m => ?_)
    obtain ⟨p, hp, rfl⟩ := val i v hv
    have k' := kept m hkeep
    have T := tk_keep (hks p (List.mem_of_getElem? hp)) k'
    have R1 : TSet P w z'.heap S L es t := still m k' g hset
    show wpAny _ A.in1 (holding [Value.ref p.1] (setAdd S (.ref p.1)) >>= _) _ _ z'
    refine wpAny_bind (wpAny_holding ?_)
    unfold setAdd
    refine wpAny_holding (wpAny_bind (wpAny_pyHash_tuple hu T (add (s := { z' with toks := z'.toks + (p.2.length + 1) }) R1 T hu (by have := g.le; omega) fun b h' L' es' t' sb R' c1 c2 => ?_)))
    have g' : Took ks (i + 1) L' := by
      by_cases c : p.2 ∈ L.map (·.2)
      · rw [c1 c]
        exact g.old hp c
      · exact g.new hp c (c2 c)
    have k2 : ∀ b o, h0.get? b = some o → h'.get? b = some o := fun b o e => (sb.2 b fun q => by rw [q, nS] at e; cases e).trans (k' b o e)
    refine wpAny_pure ⟨plainId_quiet PyProof.Rows.F.plain_set_update_loop _, ih (i + 1) _ (by omega) hin (W.frame _ z' _ _ hst' (Nat.le_add_right _ _) fun b hb o e => ?_) k2 ⟨L', es', t', R', g'⟩ fun z2 L2 es2 t2 m2 R2 g2 kk2 => ?_⟩
    · rw [sb.2 b fun q => hS (q ▸ hb)]
      exact e
    · refine fin z2 L2 es2 t2 (Moved.trans W.gtrans ((m.mono wsub).then_heap (Nat.le_add_right _ _) fun b o hb e => ?_) m2) R2 g2 kk2
      rw [sb.2 b fun q => hb (q ▸ List.mem_cons_self)]
      exact e
end
end AsSet

set_option maxHeartbeats 4000000
set_option autoImplicit true
namespace AsSet
open PySem PySem.Spec PyProof.Rows L2
section
variable {P : Program} {w : World} {A : Around} {E : Value → Shared → Prop} {s : Shared}
abbrev bareSet (led : Bool) : Obj := { cls := .type "set", dict := none, data := .set #[] 0 (.fresh 0 0 led) }
/-- set(t), t a tuple of such tuples -/
theorem set_of {l : Addr} {items : Array Value} (ks : List KT) {Q : Value → Shared → Prop} (hh : A.handled = none) (hl : s.heap.IsTuple l items) (hit : items.toList = ks.map fun p => Value.ref p.1) (hks : ∀ p ∈ ks, Tk P w s.heap p.2 p.1) (hfew : ks.length < 64) (hu : A.units + 3 < cLine)
    (q : ∀ h' tk L es t, TSet P w h' s.heap.objs.size L es t → Took ks ks.length L → (∀ b o, s.heap.get? b = some o → h'.get? b = some o) → Q (.ref s.heap.objs.size) { s with heap := h', toks := tk }) :
    wpAny (model P w) A (call (.type "set") [.ref l]) Q E s := by
  have hz : items.size = ks.length := by rw [← Array.length_toList, hit, List.length_map]
  have cs := PySem.F.called_set
  obtain ⟨c, tl, hmro⟩ := cs.mro
  have hmade := cs.made
  have hsub := cs.sub
  have n1 := cs.notType
  have n2 := cs.canCreate
  have ct := PySem.F.typeCall_set_1 (.ref l)
  refine wpAny_call (codeAny_of_tree (show wpAny _ _ (callAny (.type "set") _) _ _ _ from wpAny_pure ⟨Code.quiet_builtin _ (by decide +kernel), codeAny_builtin PySem.F.entry_type_call ?_⟩))
  rw [Around.under_plain (weight_type_call_type "set" [.ref l] []) rfl]
  repeat (any_goals (first | assumption | wp_step))
  refine codeAny_mono (code_set_new_1 (.ref l) (E := E) (Q₁ := fun v z => ∃ led : Bool, v = .ref s.heap.objs.size ∧ z = { s with heap := s.heap.push (bareSet led) }) fun led => ⟨led, rfl, rfl⟩) fun r z hr => ?_
  match r, hr with
  | .error _, hr => exact hr
  | .ok .next, hr => exact hr.elim
  | .ok .brk, hr => exact hr.elim
  | .ok .cont, hr => exact hr.elim
  | .ok (.ret v), hr =>
    obtain ⟨led, rfl, rfl⟩ := hr
    have at0 : (s.heap.push (bareSet led)).get? s.heap.objs.size = some (bareSet led) := Heap.get?_push_size _ rfl
    have ty : Shared.TypeIs { s with heap := s.heap.push (bareSet led) } (.ref s.heap.objs.size) "set" := ⟨_, at0, rfl⟩
    have li := cs.init.lookup
    have bi := cs.init.bind (.ref s.heap.objs.size)
    repeat (any_goals (first | assumption | wp_step))
    refine codeAny_mono (codeAny_call_builtin (R := wants (fun r z => r = .none ∧ ∃ h' tk L es t, z = { s with heap := h', toks := tk } ∧ TSet P w h' s.heap.objs.size L es t ∧ Took ks ks.length L ∧ ∀ b o, s.heap.get? b = some o → h'.get? b = some o) E)
      cs.init.plain PySem.F.entry_set_init (check_set_init_1 ty ?_)) fun r2 z2 hr2 => ?_
    · obtain ⟨⟨ocls, odict, odata, oslots⟩, hol, hc, nl, hd⟩ := hl
      simp only at hc hd
      subst hc
      subst hd
      have hol2 : (s.heap.push (bareSet led)).get? l = some { cls := .type "tuple", dict := odict, data := .seq items nl, slots := oslots } := Heap.get?_push_of_some _ hol
      have ts := PySem.F.sub_tuple_set
      have tf := PySem.F.sub_tuple_frozenset
      have td : (Value.type "tuple" == Value.type "dict") = false := by decide
      have hl2 : (s.heap.push (bareSet led)).IsTuple l items := ⟨_, hol2, rfl, nl, rfl⟩
      unfold Builtin.«set.__init__» noKeywords Builtin.Frozenset.updateFrom
      generalize hPI : pyIter = PI
      wp_walk
      subst hPI
      have lt : l < s.heap.objs.size := Heap.lt_size hol
      have zz : (s.heap.push (bareSet led)).objs.size = s.heap.objs.size + 1 := Heap.size_push ..
      have gone : ∀ b, s.heap.objs.size ≤ b → s.heap.get? b = none := fun b hb => Heap.get?_none_of_le hb
      refine wpAny_pyIter_tuple hl2 (wpAny_bind (wpAny_runValue ?_))
      have h3 : A.in1.in1.in1.handled = none := hh
      have ne1 : l ≠ (s.heap.push (bareSet led)).objs.size := by rw [zz]; exact Nat.ne_of_lt (Nat.lt_succ_of_lt lt)
      have ne2 : s.heap.objs.size ∉ [(s.heap.push (bareSet led)).objs.size, l] := by
        rw [zz]
        intro e
        rcases List.mem_cons.mp e with e | e
        · exact Nat.ne_of_lt (Nat.lt_succ_self _) e
        · exact Nat.ne_of_gt lt (List.mem_singleton.mp e)
      refine fill (S := s.heap.objs.size) ((Walks.tuple h3 _ l ne1 items).toS) ne2 ks hz hfew (fun i v hv => ?_) s.heap hks (gone _ (Nat.le_refl _)) (fun b hb => gone b (by rw [List.mem_singleton.mp hb, zz]; exact Nat.le_succ _)) hu items.size 0 _ (Nat.sub_zero _) (Nat.zero_le _)
        ⟨⟨_, Heap.get?_push_size _ rfl, rfl, rfl⟩, hl2.push _⟩ (fun b o e => Heap.get?_push_of_some _ (Heap.get?_push_of_some _ e)) ⟨[], #[], _, tset_new (Heap.get?_push_of_some _ at0), Took.start ks⟩ fun z' L es t m R g kk => ?_
      · have z : items.toList[i]? = some v := by rw [Array.getElem?_toList]; exact hv
        rw [hit, List.getElem?_map] at z
        cases hq : ks[i]? with
        | none => rw [hq] at z; cases z
        | some p =>
          rw [hq] at z
          exact ⟨p, rfl, (Option.some.inj z).symm⟩
      · obtain ⟨zh, zg, zd, zt, zo⟩ := z'
        obtain rfl : zg = s.gens := m.gens
        obtain rfl : zd = s.drawn := m.drawn
        obtain rfl : zo = s.os := m.os
        rw [hz] at g
        exact wpAny_pure (show wpAny _ _ (ret Value.none) _ _ _ from wpAny_pure ⟨rfl, zh, zt, L, es, t, rfl, R, g, kk⟩)
    · match r2, hr2 with
      | .error _, hr => exact hr
      | .ok .next, hr => exact hr.elim
      | .ok .brk, hr => exact hr.elim
      | .ok .cont, hr => exact hr.elim
      | .ok (.ret v), hr =>
        obtain ⟨rfl, h', tk, L, es, t, rfl, R, g, kk⟩ := hr
        repeat (any_goals (first | assumption | wp_step))
        exact q _ _ _ _ _ R g kk
end

theorem items_of : ∀ {ks : List Key} {us : List Value} {P : Program} {w : World}, Vals (ks.map kV) us → ItemsAre (mixKind P w) ks us
  | [], _, _, _, .nil => .nil
  | .inl i :: ks, _, P, w, .cons r t => by
    obtain ⟨k, rfl⟩ := r
    exact .cons (mixKind_int P w i k) (items_of t)
  | .inr x :: ks, _, P, w, .cons r t => by
    obtain ⟨k, rfl⟩ := r
    exact .cons (mixKind_str P w x k) (items_of t)
theorem tk_of {X : Cx} {pins : List (Addr × Obj)} {σ : L2.St} {H : Hp} {s : Shared} {b : Addr} {ks : List Key} (I : Inv X pins σ H s) (h : SqT X.K H b (ks.map kV)) : Tk X.prog X.w s.heap ks b := by
  obtain ⟨its, rv, ⟨o, ho, hc, n, hd⟩, _⟩ := I.tuple h
  exact ⟨o, its.toArray, n, ho, hc, hd, items_of rv⟩
theorem refs_of : ∀ {ks : List KT} {us : List Value}, Vals (ks.map fun p => V.ref p.1) us → us = ks.map fun p => Value.ref p.1
  | [], _, .nil => rfl
  | _ :: _, _, .cons r t => by
    cases r
    rw [refs_of t]
    rfl
/-- len(set(t)): n is told by whether the items differ -/
def tLenSet (K : PySem.W.Frag) (ta : TE) : TE := fun σ H Q => ta σ H fun x G => ∃ (l : Addr) (ks : List KT), x = .ref l ∧ SqT K G l (ks.map fun p => V.ref p.1) ∧ (∀ p ∈ ks, SqT K G p.1 (p.2.map kV)) ∧ ks.length < 64 ∧
  ∀ n : Nat, n ≤ ks.length → (n = ks.length ↔ (ks.map (·.2)).Nodup) → Q (.int (n : Int)) G
theorem pe_lenSet {X : Cx} {a : Expr} {ta : TE} {k : Nat} {p p2 q pos : Pos} (hr : Room k X.A) (hg : Gl X "len") (hm : X.mg "len" = none) (hg2 : Gl X "set") (hm2 : X.mg "set" = none) (ha : PE X a ta) (hc : X.calm = true := by rfl)
    (na : starEach [a] X.env = (false, eval a X.env) :: starEach [] X.env := by rfl) : PE X (.Call (.Name "len" p) [.Call (.Name "set" p2) [a] [] q] [] pos) (tLenSet X.K ta) := by
  refine ⟨fun pins s σ H Q I h => ?_⟩
  refine Call_ (ld_blt I hg hm boot_len (PyProof.Rows.callWith_builtin1 (PyProof.Rows.args_cons (Call_ (ld_blt I hg2 hm2 boot_set ?_)) rfl) rfl rfl))
  refine PyProof.Rows.callWith_type1 (PyProof.Rows.args_cons (thn (ha.run pins s σ H _ I h) fun v s1 ⟨x, G, J, r1, q1⟩ => PyProof.Rows.args_nil ?_) na) na rfl
  obtain ⟨l, ks, rfl, hq, hks, hl, q1⟩ := q1
  cases r1
  obtain ⟨its, rv, tp, hz⟩ := J.tuple hq
  have hu := hr.units
  refine set_of ks (J.ok.hd hc) tp (by rw [refs_of rv]) (fun p hp => tk_of J (hks p hp)) hl (by omega) fun h' tk L es t R g kk => PyProof.Rows.args_nil ?_
  have J2 : Inv X pins σ G { s1 with heap := h', toks := tk } := J.kept kk
  obtain ⟨o, ep, ho, hex, hd⟩ := R.obj
  have hn := ents_len R.ents
  have hfull := g.full
  rw [List.take_length] at hfull
  exact call_len_set ho hex hd (R.fit (s := { s1 with heap := h', toks := tk })) (by rw [hn]; have := R.few; omega) ⟨.int (L.length : Nat), G, J2.tok _, ⟨_, by rw [hn]⟩, q1 L.length g.le hfull⟩
end AsSet

set_option maxHeartbeats 4000000
set_option autoImplicit false
/-! kinds: tuples of two texts; a tuple of them has no double. -/
namespace AsKit
open PySem PySem.Spec PyProof.Rows L2 AsSort
open Evl (Ex Ev EvT EvA)
def kD (p : Str × Str) : PyData := .tuple [.str p.1, .str p.2]
def kK (p : Str × Str) : List Key := [Sum.inr p.1, Sum.inr p.2]
theorem kK_inj {p q : Str × Str} (h : kK p = kK q) : p = q := by
  have e1 : (Sum.inr p.1 : Key) = Sum.inr q.1 := (List.cons.inj h).1
  have e2 : (Sum.inr p.2 : Key) = Sum.inr q.2 := (List.cons.inj (List.cons.inj h).2).1
  exact Prod.ext (Sum.inr.inj e1) (Sum.inr.inj e2)
theorem kK_nodup {ps : List (Str × Str)} : (ps.map kK).Nodup ↔ ps.Nodup := by
  unfold List.Nodup
  rw [List.pairwise_map]
  exact ⟨fun h => h.imp fun n e => n (by rw [e]), fun h => h.imp fun n e => n (kK_inj e)⟩
section
variable {K : PySem.W.Frag} {σ : L2.St} {H : Hp} {te : TE}
theorem kts {G : Hp} : ∀ {ps : List (Str × Str)} {xs : List V}, DpAll K G xs (ps.map kD) → ∃ ks : List AsSet.KT, xs = ks.map (fun p => V.ref p.1) ∧ (∀ p ∈ ks, SqT K G p.1 (p.2.map kV)) ∧ ks.map (·.2) = ps.map kK
  | [], _, .nil => ⟨[], rfl, fun _ h => (nomatch h), rfl⟩
  | p :: ps, _, .cons h t => by
    obtain ⟨ks, e1, e2, e3⟩ := kts (ps := ps) t
    cases h with
    | tup hs hx =>
      rename_i a ys
      obtain ⟨u, v, rfl, h1, h2⟩ := dp2 hx
      cases h1
      cases h2
      refine ⟨(a, kK p) :: ks, by rw [e1]; rfl, fun q hq => ?_, by rw [List.map_cons, List.map_cons, e3]⟩
      rcases List.mem_cons.mp hq with e | hq
      · rw [e]
        exact hs
      · exact e2 q hq
theorem d_lenSetEq {ps : List (Str × Str)} (h : EvD K te σ H (.tuple (ps.map kD))) (hl : ps.length < 64) : EvD K (tOp rEq (AsSet.tLenSet K te) (tCB (rLenQ K) (tCons te tNil))) σ H (.bool (decide ps.Nodup)) := fun H1 a Q q =>
  h H1 a _ fun v H2 x hd => by
    cases hd with
    | tup hs hx =>
      obtain ⟨ks, e1, e2, e3⟩ := kts hx
      subst e1
      have hk : ks.length = ps.length := by
        have z := congrArg List.length e3
        rw [List.length_map, List.length_map] at z
        exact z
      refine ⟨_, ks, rfl, hs, e2, by omega, fun n hn hi => ?_⟩
      refine h H2 (a.trans x) _ fun w H3 y hw => ?_
      cases hw with
      | tup hs3 hx3 =>
        rename_i c zs
        refine ⟨c, zs, rfl, .inr hs3, rfl, ?_⟩
        have hz : zs.length = ps.length := by rw [dpAll_len hx3, List.length_map]
        rw [hz]
        have e : decide (V.int (n : Int) = V.int ((ps.length : Nat) : Int)) = decide ps.Nodup := by
          rw [e3, kK_nodup] at hi
          by_cases c : ps.Nodup
          · rw [decide_eq_true c, hi.mpr c, hk]
            exact decide_eq_true rfl
          · rw [decide_eq_false c]
            exact decide_eq_false fun z => c (hi.mp (by have := Int.ofNat.inj (V.int.inj z); omega))
        rw [e]
        exact q _ H3 (x.trans y) (.bl _)
end
end AsKit

set_option maxHeartbeats 4000000
set_option autoImplicit false
namespace K24
open PySem PySem.Spec PyProof.Rows L2 AsSort AsKit
open Evl (Ex Ev EvT EvA)
def top (i : Nat) : Stmt := PySem.Challenge.pw_anyscribe_k24_one_way_exactly.main.body.getD i (.Pass ⟨0, 0, 0, 0⟩)
abbrev sIsLetters : Stmt := top 12
abbrev sIsText : Stmt := top 13
abbrev sIsTextWithin : Stmt := top 14
abbrev sIsKind : Stmt := top 15
abbrev sIsLot : Stmt := top 16
abbrev sCheckLetters : Stmt := top 17
abbrev sCheckText : Stmt := top 18
abbrev sCheckKinds : Stmt := top 19
section
variable {P : Program} {w : World} {K : PySem.W.Frag} {mg : Str → Option Value} {base : Heap}
def isIntD (d : PyData) : Bool := isD "int" d && !isD "bool" d
abbrev spIsInteger (K : PySem.W.Frag) : Sp := spP K (fun ds => ds.length = 1) (one fun d => .bool (isIntD d))
abbrev nIsLetters : List Str := ["value", "small", "rising", "letter", "at"]
theorem sc_is_letters : FnScope nIsLetters ["value"] (defScope sIsLetters) := ⟨rfl, rfl, rfl, by decide +kernel, rfl, by decide +kernel, by decide +kernel⟩
def leS (i j : Str) : Bool := !decide (j.cps.toList < i.cps.toList)
def smF : PyData → Bool
  | .str y => leS "a" y && leS y "z"
  | _ => false
def riF (z : Str) : PyData → Bool
  | .int i => match atI z.cps.toList (i - 1), atI z.cps.toList i with
    | some a, some b => decide ([a] < [b])
    | _, _ => false
  | _ => false
def isLetS (z : Str) : Bool := decide ((1 : Int) ≤ z.length) && decide ((z.length : Int) ≤ 4) && (decide (((((sgns z).filter smF).map id).length : Int) = z.length) && decide (((((rngD 1 ((z.length : Int) - 1).toNat).filter (riF z)).map id).length : Int) = (z.length : Int) - 1))
def isLettersD : PyData → Bool
  | .str z => isLetS z
  | _ => false
abbrev spIsLetters (K : PySem.W.Frag) : Sp := spP K (fun ds => ∃ d, ds = [d] ∧ Tx d) (one fun d => .bool (isLettersD d))
theorem c_is_letters (D : Df K mg "is_letters" sIsLetters) (hb : Bl mg) (hm : Gn mg "MOST_LETTERS" 4) : Cl P w K mg base 1 "is_letters" (spIsLetters K) [] := by
  refine cl_of D sc_is_letters (len_sp fun ds ⟨d, h, _⟩ => by rw [h]; rfl) (fun _ _ _ _ _ _ us hl => match us, hl with | [_], _ => rfl) fun f cdv A outer s H vs Q E hr h => ?_
  obtain ⟨ds, hd, ⟨d, rfl, ht⟩, q⟩ := h
  obtain ⟨v, rfl, h0⟩ := dp1 hd
  refine ⟨_, pss_cons (ps_if (pw_or (pt_not (pt_val (pe_isi (x := "str") (T := "str") hb (pv 0)))) (pw_or1 (pt_not (pt_chain op_le op_le pe_int (pe_lenS hb (pv 0)) (pe_gn hm))))).pt (pss_one (ps_ret pe_bl)) pss_nil)
    (pss_cons (ps_setLcn (i := 1) 3 sc_is_letters.nd (pi_str (pv 0)) (fun _ _ _ _ _ => pts_one (pt_chain op_le_str op_le_str pe_str (pv 3) pe_str)) (fun _ _ _ _ _ => pv 3) (fun _ _ _ _ _ => pg_name sc_is_letters.nd rfl (.inl rfl)) (blkOk_by (N := nIsLetters) (sc := defScope sIsLetters) (own := [("letter", 3)]) (by decide +kernel)) rfl rfl rfl (sw_true rfl rfl rfl (by decide +kernel)))
    (pss_cons (ps_setLcn (i := 2) 4 sc_is_letters.nd (pi_range2 (by rfl) (hb _ (by decide +kernel)) (pa_cons pe_int (pa_cons (pe_lenS hb (pv 0)) pa_nil))) (fun _ _ _ _ _ => pts_one (pt_cmpR op_lt_str (pe_ix ix_str (pv 0) (pe_op op_sub (pv 4) pe_int) (fun _ _ => rfl)) (pe_ix ix_str (pv 0) (pv 4) (fun _ _ => rfl)) (nomark _))) (fun _ _ _ _ _ => pv 4) (fun _ _ _ _ _ => pg_name sc_is_letters.nd rfl (.inl rfl)) (blkOk_by (N := nIsLetters) (sc := defScope sIsLetters) (own := [("at", 4)]) (by decide +kernel)) rfl rfl rfl (sw_true rfl rfl rfl (by decide +kernel)))
    (pss_one (ps_ret (pe_and (pe_cmpR op_eq (pe_lenQ hb (pv 1)) (pe_lenS hb (pv 0)) (nomark _)) (pe_one (pe_cmpR op_eq (pe_lenQ hb (pv 2)) (pe_op op_sub (pe_lenS hb (pv 0)) pe_int) (nomark _)))))))), ?_⟩
  have a0 : At K (start nIsLetters [v]) H 0 d := ⟨_, rfl, h0⟩
  by_cases hs : isD "str" d = true
  · obtain ⟨z, rfl⟩ := isD_str hs
    have hz : z.length ≤ 40000 := ht z rfl
    have hz1 : z.length ≤ 100000 := by omega
    refine Evl.q_when (b := !(isD "str" (.str z)) || !(decide ((1 : Int) ≤ z.length) && decide ((z.length : Int) ≤ 4))) (Evl.et_or (Evl.et_not (t_ofB (d_isD (d_var a0)))) fun _ => Evl.et_not (t_ofD (d_chI (g1 := fun i j => decide (i ≤ j)) (g2 := fun i j => decide (i ≤ j)) d_int (d_lenS (d_var a0) hz1) fun _ => d_int))) (fun hb1 H1 e1 => AsKit.s_ret (K := K) d_bl fun u H2 e2 hu => q u H2 (e1.trans e2) ?_) fun hb1 H1 e1 => ?_
    · have : isLettersD (.str z) = false := by
        rw [hs, Bool.not_true, Bool.false_or, Bool.not_eq_true'] at hb1
        show isLetS z = false
        unfold isLetS
        rw [hb1, Bool.false_and]
      show Dp K H2 u (.bool (isLettersD (.str z)))
      rw [this]
      exact hu
    · rw [hs, Bool.not_true, Bool.false_or] at hb1
      have hb2 : (decide ((1 : Int) ≤ z.length) && decide ((z.length : Int) ≤ 4)) = true := by simpa using hb1
      have hz4 : z.length ≤ 4 ∧ 1 ≤ z.length := by
        simp only [Bool.and_eq_true, decide_eq_true_eq] at hb2
        omega
      refine AsKit.q_asg (d_lcS (z := z) smF id (d_var (a0.mono e1)) (by omega) (fun d hd hf => ?_) fun c hc x H2 e2 hx k hk => hk _ rfl (t_ofD (K := K) ?_) fun _ => d_var ⟨_, rfl, hx⟩) fun v1 H2 e2 h1 => ?_
      · obtain ⟨c, _, rfl⟩ := List.mem_map.mp hd
        rfl
      · exact d_chS (g1 := leS) (g2 := leS) d_str (d_var ⟨_, rfl, hx⟩) d_str
      have b0 : At K ((start nIsLetters [v]).set 1 (some v1)) H2 0 (.str z) := ⟨_, rfl, dp_ex (e1.trans e2) h0⟩
      refine AsKit.q_asg (d_lcR2 (lo := 1) (hi := z.length) (riF z) id (ds_cons d_int (ds_cons (d_lenS (d_var b0) hz1) ds_nil)) (by omega) (fun d hd hf => ?_) fun i hi x H3 e3 hx k hk => hk _ rfl (t_ofD (K := K) ?_) fun _ => d_var ⟨_, rfl, hx⟩) fun v2 H3 e3 h2 => ?_
      · obtain ⟨c, _, rfl⟩ := List.mem_map.mp hd
        rfl
      · have hl : z.cps.toList.length = z.length := Array.length_toList
        have hA : ∀ n : Nat, n < z.length → ∃ c, atI z.cps.toList (n : Int) = some c := fun n hn => ⟨_, atI_nat (List.getElem?_eq_getElem (by omega))⟩
        obtain ⟨p1, q1⟩ := hA i (by omega)
        obtain ⟨p2, q2⟩ := hA (i + 1) (by omega)
        have x1 : (1 : Int) + (i : Int) - 1 = (i : Int) := by omega
        have x2 : (1 : Int) + (i : Int) = ((i + 1 : Nat) : Int) := by omega
        have r : riF z (.int (1 + i)) = decide ([p1] < [p2]) := by
          show (match atI z.cps.toList (1 + (i : Int) - 1), atI z.cps.toList (1 + (i : Int)) with
            | some a, some b => decide ([a] < [b])
            | _, _ => false) = _
          rw [x1, x2, q1, q2]
        rw [r]
        have c0 : At K ((wipe (((start nIsLetters [v]).set 1 (some v1))) [4]).set 4 (some x)) H3 0 (.str z) := ⟨_, rfl, dp_ex ((e1.trans e2).trans e3) h0⟩
        have c4 : At K ((wipe (((start nIsLetters [v]).set 1 (some v1))) [4]).set 4 (some x)) H3 4 (.int (1 + i)) := ⟨_, rfl, hx⟩
        exact d_cmpS (g := fun i j => decide (i.cps.toList < j.cps.toList)) (d_ixS (c := p1) (d_var c0) (d_arI (g := fun i j => i - j) (d_var c4) d_int) hz1 (by rw [x1]; exact q1)) (d_ixS (c := p2) (d_var c0) (d_var c4) hz1 (by rw [x2]; exact q2))
      have c0 : At K (((start nIsLetters [v]).set 1 (some v1)).set 2 (some v2)) H3 0 (.str z) := ⟨_, rfl, dp_ex ((e1.trans e2).trans e3) h0⟩
      have c1 : At K (((start nIsLetters [v]).set 1 (some v1)).set 2 (some v2)) H3 1 _ := ⟨_, rfl, dp_ex e3 h1⟩
      have c2 : At K (((start nIsLetters [v]).set 1 (some v1)).set 2 (some v2)) H3 2 _ := ⟨_, rfl, h2⟩
      refine AsKit.s_ret (K := K) (d_and (d_eqI (d_lenL (d_var c1)) (d_lenS (d_var c0) hz1)) fun _ => d_eqI (d_lenL (d_var c2)) (d_arI (g := fun i j => i - j) (d_lenS (d_var c0) hz1) d_int)) fun u H4 e4 hu => q u H4 (((e1.trans e2).trans e3).trans e4) ?_
      show Dp K H4 u (.bool (isLettersD (.str z)))
      show Dp K H4 u (.bool (isLetS z))
      unfold isLetS
      rw [hb2, Bool.true_and]
      exact hu
  · have hs : isD "str" d = false := by simpa using hs
    refine Evl.q_when (b := !(isD "str" d) || false) (Evl.et_or (Evl.et_not (t_ofB (d_isD (d_var a0)))) fun h => by rw [hs] at h; cases h) (fun hb1 H1 e1 => AsKit.s_ret (K := K) d_bl fun u H2 e2 hu => q u H2 (e1.trans e2) ?_) fun hb1 => by rw [hs] at hb1; cases hb1
    have : isLettersD d = false := by
      cases d with
      | str z => rw [isD_str1] at hs; cases hs
      | _ => rfl
    show Dp K H2 u (.bool (isLettersD d))
    rw [this]
    exact hu
abbrev nIsText : List Str := ["letters", "value", "letter"]
theorem sc_is_text : FnScope nIsText ["letters", "value"] (defScope sIsText) := ⟨rfl, rfl, rfl, by decide +kernel, rfl, by decide +kernel, by decide +kernel⟩
def allIn (y z : Str) : Bool := z.cps.toList.all fun c => decide (c ∈ y.cps.toList)
def isTextD : PyData → PyData → Bool
  | .str y, .str z => allIn y z
  | _, _ => false
theorem isTextD_no {l d : PyData} (h : isD "str" d = false) : isTextD l d = false := by
  cases d with
  | str z => rw [isD_str1] at h; cases h
  | _ => cases l <;> rfl
abbrev spIsText (K : PySem.W.Frag) : Sp := spP K (fun ds => ∃ y d, ds = [.str y, d] ∧ Tx d) (two fun l d => .bool (isTextD l d))
theorem c_is_text (D : Df K mg "is_text" sIsText) (hb : Bl mg) : Cl P w K mg base 1 "is_text" (spIsText K) [] := by
  refine cl_of D sc_is_text (len_sp fun ds ⟨y, d, h, _⟩ => by rw [h]; rfl) (fun _ _ _ _ _ _ us hl => match us, hl with | [_, _], _ => rfl) fun f cdv A outer s H vs Q E hr h => ?_
  obtain ⟨ds, hd, ⟨y, d, rfl, ht⟩, q⟩ := h
  obtain ⟨v, v2, rfl, h0, h1⟩ := dp2 hd
  refine ⟨_, pss_one (ps_ret (pe_and (pe_isi (x := "str") (T := "str") hb (pv 1)) (pe_one (pe_allL rfl hb (pe_lcn 2 sc_is_text.nd (pi_str (pv 1)) (fun _ _ _ _ _ => pts_nil) (fun _ _ _ _ _ => pe_cmpR op_inS (pv 2) (pv 0) rfl) (fun _ _ _ _ _ => pg_name sc_is_text.nd rfl (.inl rfl)) (blkOk_by (N := nIsText) (sc := defScope sIsText) (own := [("letter", 2)]) (by decide +kernel)) rfl))))), ?_⟩
  have a0 : At K (start nIsText [v, v2]) H 0 (.str y) := ⟨_, rfl, h0⟩
  have a1 : At K (start nIsText [v, v2]) H 1 d := ⟨_, rfl, h1⟩
  by_cases hs : isD "str" d = true
  · obtain ⟨z, rfl⟩ := isD_str hs
    have hz : z.length ≤ 40000 := ht z rfl
    refine AsKit.s_ret (K := K) (d_and (b := allIn y z) (d_isD (d_var a1)) fun _ => ?_) fun u H2 e2 hu => q u H2 e2 ?_
    · have e : (((sgns z).filter fun _ => true).map fun d => PyData.bool (match d with | .str ⟨#[c]⟩ => decide (c ∈ y.cps.toList) | _ => false)) = (z.cps.toList.map fun c => decide (c ∈ y.cps.toList)).map PyData.bool := by
        rw [List.filter_eq_self.mpr fun _ _ => rfl]
        unfold sgns
        rw [List.map_map, List.map_map]
        rfl
      refine d_eqTo (d_all (bs := z.cps.toList.map fun c => decide (c ∈ y.cps.toList)) (d_eqTo (d_lcS (z := z) (fun _ => true) (fun d => PyData.bool (match d with | .str ⟨#[c]⟩ => decide (c ∈ y.cps.toList) | _ => false)) (d_var a1) (by omega) (fun _ _ _ => rfl) fun c hc x H2 e2 hx k hk => hk _ rfl (fun H3 e3 Q q => q H3 (Ex.refl H3)) fun _ => ?_) (congrArg PyData.list e))) ?_
      · exact d_inS (d_var ⟨_, rfl, hx⟩) (d_var ⟨_, rfl, dp_ex e2 h0⟩)
      · unfold allIn
        rw [List.all_map]
        rfl
    · show Dp K H2 u (.bool (allIn y z))
      rw [hs, Bool.true_and] at hu
      exact hu
  · have hs : isD "str" d = false := by simpa using hs
    refine AsKit.s_ret (K := K) (d_and (b := true) (d_isD (d_var a1)) fun h => by rw [hs] at h; cases h) fun u H2 e2 hu => q u H2 e2 ?_
    show Dp K H2 u (.bool (isTextD (.str y) d))
    rw [isTextD_no hs]
    rw [hs, Bool.false_and] at hu
    exact hu
abbrev nIsTextWithin : List Str := ["letters", "value", "longest"]
theorem sc_is_text_within : FnScope nIsTextWithin ["letters", "value", "longest"] (defScope sIsTextWithin) := ⟨rfl, rfl, rfl, by decide +kernel, rfl, by decide +kernel, by decide +kernel⟩
def withinS (y z : Str) (n : Int) : Bool := decide ((z.length : Int) ≤ n) && allIn y z
def withinD (y : Str) (n : Int) : PyData → Bool
  | .str z => withinS y z n
  | _ => false
theorem withinD_no {y : Str} {n : Int} {d : PyData} (h : isD "str" d = false) : withinD y n d = false := by
  cases d with
  | str z => rw [isD_str1] at h; cases h
  | _ => rfl
def tw3 : PyData → PyData → PyData → PyData
  | .str y, d, .int n => .bool (withinD y n d)
  | _, _, _ => .none
abbrev spIsTextWithin (K : PySem.W.Frag) : Sp := spP K (fun ds => ∃ y d n, ds = [.str y, d, .int n] ∧ Tx d) (three tw3)
theorem c_is_text_within (D : Df K mg "is_text_within" sIsTextWithin) (hb : Bl mg) (C1 : Cl P w K mg base 1 "is_text" (spIsText K) []) : Cl P w K mg base 2 "is_text_within" (spIsTextWithin K) [] := by
  refine cl_of D sc_is_text_within (len_sp fun ds ⟨y, d, n, h, _⟩ => by rw [h]; rfl) (fun _ _ _ _ _ _ us hl => match us, hl with | [_, _, _], _ => rfl) fun f cdv A outer s H vs Q E hr h => ?_
  obtain ⟨ds, hd, ⟨y, d, n, rfl, ht⟩, q⟩ := h
  obtain ⟨v, v2, v3, rfl, h0, h1, h2⟩ := dp3 hd
  refine ⟨_, pss_one (ps_ret (pe_and (pe_isi (x := "str") (T := "str") hb (pv 1)) (pe_and (pe_cmpR op_le (pe_lenS hb (pv 1)) (pv 2) (nomark _)) (pe_one (C8.pe_c C1 hr (by decide) (by rfl) (pa_cons (pv 0) (pa_cons (pv 1) pa_nil))))))), ?_⟩
  have a0 : At K (start nIsTextWithin [v, v2, v3]) H 0 (.str y) := ⟨_, rfl, h0⟩
  have a1 : At K (start nIsTextWithin [v, v2, v3]) H 1 d := ⟨_, rfl, h1⟩
  have a2 : At K (start nIsTextWithin [v, v2, v3]) H 2 (.int n) := ⟨_, rfl, h2⟩
  by_cases hs : isD "str" d = true
  · obtain ⟨z, rfl⟩ := isD_str hs
    have hz : z.length ≤ 40000 := ht z rfl
    refine AsKit.s_ret (K := K) (d_and (b := withinS y z n) (d_isD (d_var a1)) fun _ => d_and (d_cmpI (g := fun i j => decide (i ≤ j)) (d_lenS (d_var a1) (by omega)) (d_var a2)) fun _ => d_call (ds_cons (d_var a0) (ds_cons (d_var a1) ds_nil)) ⟨y, .str z, rfl, ht⟩) fun u H2 e2 hu => q u H2 e2 ?_
    show Dp K H2 u (.bool (withinS y z n))
    rw [hs, Bool.true_and] at hu
    exact hu
  · have hs : isD "str" d = false := by simpa using hs
    refine AsKit.s_ret (K := K) (d_and (b := true) (d_isD (d_var a1)) fun h => by rw [hs] at h; cases h) fun u H2 e2 hu => q u H2 e2 ?_
    show Dp K H2 u (.bool (withinD y n d))
    rw [withinD_no hs]
    rw [hs, Bool.false_and] at hu
    exact hu
theorem two_of : ∀ {es : List PyData}, es.length = 2 → ∃ a b, es = [a, b]
  | [a, b], _ => ⟨a, b, rfl⟩
abbrev nIsKind : List Str := ["letters", "value", "left", "right"]
theorem sc_is_kind : FnScope nIsKind ["letters", "value"] (defScope sIsKind) := ⟨rfl, rfl, rfl, by decide +kernel, rfl, by decide +kernel, by decide +kernel⟩
def neS : PyData → PyData → Bool
  | .str a, .str b => !decide (a = b)
  | _, _ => false
def kindD (y : Str) : PyData → Bool
  | .tuple [a, b] => (withinD y 3 a && withinD y 1 b) && neS a b
  | _ => false
theorem kindD_no {y : Str} {d : PyData} (h : isD "tuple" d = false) : kindD y d = false := by
  cases d with
  | tuple z => rw [isD_tup1] at h; cases h
  | _ => rfl
theorem kindD_len {y : Str} {ds : List PyData} (h : ds.length ≠ 2) : kindD y (.tuple ds) = false := by
  match ds, h with
  | [], _ => rfl
  | [_], _ => rfl
  | [_, _], h => exact (h rfl).elim
  | _ :: _ :: _ :: _, _ => rfl
/-- the items' texts are of a length that can be told -/
def TxK (d : PyData) : Prop := ∀ ds, d = .tuple ds → ∀ e ∈ ds, Tx e
def kd2 : PyData → PyData → PyData
  | .str y, d => .bool (kindD y d)
  | _, _ => .none
abbrev spIsKind (K : PySem.W.Frag) : Sp := spP K (fun ds => ∃ y d, ds = [.str y, d] ∧ TxK d) (two kd2)
theorem withinD_str {y : Str} {n : Int} {d : PyData} (h : withinD y n d = true) : ∃ z, d = .str z := by
  cases d with
  | str z => exact ⟨z, rfl⟩
  | _ => cases h
theorem c_is_kind (D : Df K mg "is_kind" sIsKind) (hb : Bl mg) (g3 : Gn mg "LONGEST_LEFT" 3) (g1 : Gn mg "LONGEST_RIGHT" 1) (C1 : Cl P w K mg base 2 "is_text_within" (spIsTextWithin K) []) : Cl P w K mg base 3 "is_kind" (spIsKind K) [] := by
  refine cl_of D sc_is_kind (len_sp fun ds ⟨y, d, h, _⟩ => by rw [h]; rfl) (fun _ _ _ _ _ _ us hl => match us, hl with | [_, _], _ => rfl) fun f cdv A outer s H vs Q E hr h => ?_
  obtain ⟨ds, hd, ⟨y, d, rfl, ht⟩, q⟩ := h
  obtain ⟨v, v2, rfl, h0, h1⟩ := dp2 hd
  refine ⟨_, pss_cons (ps_if (pw_or (pt_not (pt_val (pe_isi (x := "tuple") (T := "tuple") hb (pv 1)))) (pw_or1 (pt_cmpR op_ne (pe_lenQ hb (pv 1)) pe_int (nomark _)))).pt (pss_one (ps_ret pe_bl)) pss_nil)
    (pss_cons (ps_asg (pv 1) (pg_tup rfl (pgs_cons (pg_name (i := 2) sc_is_kind.nd rfl (.inl rfl)) (pgs_cons (pg_name (i := 3) sc_is_kind.nd rfl (.inl rfl)) pgs_nil))))
    (pss_cons (ps_if (pw_or (pt_not (pt_val (C8.pe_c C1 hr (by decide) (by rfl) (pa_cons (pv 0) (pa_cons (pv 2) (pa_cons (pe_gn g3) pa_nil)))))) (pw_or1 (pt_not (pt_val (C8.pe_c C1 hr (by decide) (by rfl) (pa_cons (pv 0) (pa_cons (pv 3) (pa_cons (pe_gn g1) pa_nil)))))))).pt (pss_one (ps_ret pe_bl)) pss_nil)
    (pss_one (ps_ret (pe_cmpR op_ne (pv 2) (pv 3) (nomark _)))))), ?_⟩
  have a0 : At K (start nIsKind [v, v2]) H 0 (.str y) := ⟨_, rfl, h0⟩
  have a1 : At K (start nIsKind [v, v2]) H 1 d := ⟨_, rfl, h1⟩
  by_cases hs : isD "tuple" d = true
  · obtain ⟨es, rfl⟩ := isD_tup hs
    refine Evl.q_when (b := !(isD "tuple" (.tuple es)) || !decide ((es.length : Int) = 2)) (Evl.et_or (Evl.et_not (t_ofB (d_isD (d_var a1)))) fun _ => t_ofD (d_neI (d_lenT (d_var a1)) d_int)) (fun hb1 H1 e1 => AsKit.s_ret (K := K) d_bl fun u H2 e2 hu => q u H2 (e1.trans e2) ?_) fun hb1 H1 e1 => ?_
    · rw [hs, Bool.not_true, Bool.false_or] at hb1
      have hl : es.length ≠ 2 := fun z => by rw [z] at hb1; cases hb1
      show Dp K H2 u (.bool (kindD y (.tuple es)))
      rw [kindD_len hl]
      exact hu
    · rw [hs, Bool.not_true, Bool.false_or] at hb1
      have hl : es.length = 2 := by
        have z := of_decide_eq_true (by simpa using hb1 : decide ((es.length : Int) = 2) = true)
        omega
      obtain ⟨a, b, rfl⟩ := two_of hl
      have ta : Tx a := ht _ rfl a (by simp)
      have tb : Tx b := ht _ rfl b (by simp)
      refine ⟨v2, rfl, g_two (dp_ex e1 h1) fun va vb ha hb2 => ?_⟩
      have c0 : At K (((start nIsKind [v, v2]).set 2 (some va)).set 3 (some vb)) H1 0 (.str y) := ⟨_, rfl, dp_ex e1 h0⟩
      have c2 : At K (((start nIsKind [v, v2]).set 2 (some va)).set 3 (some vb)) H1 2 a := ⟨_, rfl, ha⟩
      have c3 : At K (((start nIsKind [v, v2]).set 2 (some va)).set 3 (some vb)) H1 3 b := ⟨_, rfl, hb2⟩
      dsimp only
      refine Evl.q_when (b := !(withinD y 3 a) || !(withinD y 1 b)) (Evl.et_or (Evl.et_not (t_ofB (d_call (ds_cons (d_var c0) (ds_cons (d_var c2) (ds_cons d_int ds_nil))) ⟨y, a, 3, rfl, ta⟩))) fun _ => Evl.et_not (t_ofB (d_call (ds_cons (d_var c0) (ds_cons (d_var c3) (ds_cons d_int ds_nil))) ⟨y, b, 1, rfl, tb⟩)))
        (fun hb3 H2 e2 => AsKit.s_ret (K := K) d_bl fun u H3 e3 hu => q u H3 ((e1.trans e2).trans e3) ?_) fun hb3 H2 e2 => ?_
      · have z : (withinD y 3 a && withinD y 1 b) = false := by rw [← Bool.not_and] at hb3; exact (Bool.not_eq_true' _).mp hb3
        show Dp K H3 u (.bool ((withinD y 3 a && withinD y 1 b) && neS a b))
        rw [z, Bool.false_and]
        exact hu
      · have z : withinD y 3 a = true ∧ withinD y 1 b = true := by simpa using hb3
        obtain ⟨xa, rfl⟩ := withinD_str z.1
        obtain ⟨xb, rfl⟩ := withinD_str z.2
        refine AsKit.s_ret (K := K) (d_neS (d_var (c2.mono e2)) (d_var (c3.mono e2))) fun u H3 e3 hu => q u H3 ((e1.trans e2).trans e3) ?_
        show Dp K H3 u (.bool ((withinD y 3 (.str xa) && withinD y 1 (.str xb)) && !decide (xa = xb)))
        rw [z.1, z.2, Bool.true_and, Bool.true_and]
        exact hu
  · have hs : isD "tuple" d = false := by simpa using hs
    refine Evl.q_when (b := !(isD "tuple" d) || false) (Evl.et_or (Evl.et_not (t_ofB (d_isD (d_var a1)))) fun h => by rw [hs] at h; cases h) (fun hb1 H1 e1 => AsKit.s_ret (K := K) d_bl fun u H2 e2 hu => q u H2 (e1.trans e2) ?_) fun hb1 => by rw [hs] at hb1; cases hb1
    show Dp K H2 u (.bool (kindD y d))
    rw [kindD_no hs]
    exact hu
abbrev nIsLot : List Str := ["letters", "value", "kind"]
theorem sc_is_lot : FnScope nIsLot ["letters", "value"] (defScope sIsLot) := ⟨rfl, rfl, rfl, by decide +kernel, rfl, by decide +kernel, by decide +kernel⟩
def pairOf : PyData → Str × Str
  | .tuple [.str a, .str b] => (a, b)
  | _ => ("", "")
theorem kD_pair {y : Str} {d : PyData} (h : kindD y d = true) : d = kD (pairOf d) := by
  match d, h with
  | .tuple [a, b], h =>
    have h2 : ((withinD y 3 a && withinD y 1 b) && neS a b) = true := h
    simp only [Bool.and_eq_true] at h2
    obtain ⟨xa, rfl⟩ := withinD_str h2.1.1
    obtain ⟨xb, rfl⟩ := withinD_str h2.1.2
    rfl
def lotL (y : Str) (ds : List PyData) : Bool := decide (ds.length ≤ 12) && (ds.all (kindD y) && decide (ds.map pairOf).Nodup)
def lotD (y : Str) : PyData → Bool
  | .tuple ds => lotL y ds
  | _ => false
theorem lotD_no {y : Str} {d : PyData} (h : isD "tuple" d = false) : lotD y d = false := by
  cases d with
  | tuple z => rw [isD_tup1] at h; cases h
  | _ => rfl
def TxL (d : PyData) : Prop := ∀ ds, d = .tuple ds → ∀ e ∈ ds, TxK e
def lt2 : PyData → PyData → PyData
  | .str y, d => .bool (lotD y d)
  | _, _ => .none
abbrev spIsLot (K : PySem.W.Frag) : Sp := spP K (fun ds => ∃ y d, ds = [.str y, d] ∧ TxL d) (two lt2)
theorem c_is_lot (D : Df K mg "is_lot" sIsLot) (hb : Bl mg) (g12 : Gn mg "MOST_KINDS" 12) (C1 : Cl P w K mg base 3 "is_kind" (spIsKind K) []) : Cl P w K mg base 4 "is_lot" (spIsLot K) [] := by
  refine cl_of D sc_is_lot (len_sp fun ds ⟨y, d, h, _⟩ => by rw [h]; rfl) (fun _ _ _ _ _ _ us hl => match us, hl with | [_, _], _ => rfl) fun f cdv A outer s H vs Q E hr h => ?_
  obtain ⟨ds, hd, ⟨y, d, rfl, ht⟩, q⟩ := h
  obtain ⟨v, v2, rfl, h0, h1⟩ := dp2 hd
  refine ⟨_, pss_cons (ps_if (pw_or (pt_not (pt_val (pe_isi (x := "tuple") (T := "tuple") hb (pv 1)))) (pw_or1 (pt_cmpR op_gt (pe_lenQ hb (pv 1)) (pe_gn g12) (nomark _)))).pt (pss_one (ps_ret pe_bl)) pss_nil)
    (pss_one (ps_ret (pe_and (pe_allL rfl hb (pe_lcn 2 sc_is_lot.nd (pi_tup (pv 1)) (fun _ _ _ _ _ => pts_nil) (fun s2 H2 C cl fp => C8.pe_c C1 hr (by decide) (by rfl) (pa_cons (pv 0) (pa_cons (pv 2) pa_nil))) (fun _ _ _ _ _ => pg_name sc_is_lot.nd rfl (.inl rfl)) (blkOk_by (N := nIsLot) (sc := defScope sIsLot) (own := [("kind", 2)]) (by decide +kernel)) rfl))
      (pe_one (pe_cmpR op_eq (AsSet.pe_lenSet hr (by rfl) (hb _ (by decide +kernel)) (by rfl) (hb _ (by decide +kernel)) (pv 1)) (pe_lenQ hb (pv 1)) (nomark _)))))), ?_⟩
  have a0 : At K (start nIsLot [v, v2]) H 0 (.str y) := ⟨_, rfl, h0⟩
  have a1 : At K (start nIsLot [v, v2]) H 1 d := ⟨_, rfl, h1⟩
  by_cases hs : isD "tuple" d = true
  · obtain ⟨es, rfl⟩ := isD_tup hs
    refine Evl.q_when (b := !(isD "tuple" (.tuple es)) || decide ((12 : Int) < (es.length : Int))) (Evl.et_or (Evl.et_not (t_ofB (d_isD (d_var a1)))) fun _ => t_ofD (d_cmpI (g := fun i j => decide (j < i)) (d_lenT (d_var a1)) d_int)) (fun hb1 H1 e1 => AsKit.s_ret (K := K) d_bl fun u H2 e2 hu => q u H2 (e1.trans e2) ?_) fun hb1 H1 e1 => ?_
    · rw [hs, Bool.not_true, Bool.false_or] at hb1
      have hl : ¬ es.length ≤ 12 := fun z => by have := of_decide_eq_true hb1; omega
      show Dp K H2 u (.bool (lotL y es))
      unfold lotL
      rw [decide_eq_false hl, Bool.false_and]
      exact hu
    · rw [hs, Bool.not_true, Bool.false_or] at hb1
      have hl : es.length ≤ 12 := by have := of_decide_eq_false hb1; omega
      refine AsKit.s_ret (K := K) (d_and (a := es.all (kindD y)) (b := decide (es.map pairOf).Nodup) ?_ fun hk => ?_) fun u H2 e2 hu => q u H2 (e1.trans e2) ?_
      · have e : ((es.filter fun _ => true).map fun d => PyData.bool (kindD y d)) = (es.map (kindD y)).map PyData.bool := by
          rw [List.filter_eq_self.mpr fun _ _ => rfl, List.map_map]
          rfl
        refine d_eqTo (d_all (bs := es.map (kindD y)) (d_eqTo (d_lcT (fun _ => true) (fun d => PyData.bool (kindD y d)) (d_var (a1.mono e1)) (by omega) (fun _ _ _ => rfl) fun d hd x H2 e2 hx k hk => hk _ rfl (fun H3 e3 Q q => q H3 (Ex.refl H3)) fun _ => ?_) (congrArg PyData.list e))) ?_
        · exact d_call (ds_cons (d_var ⟨_, rfl, dp_ex (e1.trans e2) h0⟩) (ds_cons (d_var ⟨_, rfl, hx⟩) ds_nil)) ⟨y, d, rfl, ht _ rfl d hd⟩
        · rw [List.all_map]
          rfl
      · have e : es = (es.map pairOf).map kD := by
          rw [List.map_map]
          refine (List.map_id'' (fun _ => rfl) es).symm.trans (List.map_congr_left fun d hd => ?_)
          exact kD_pair (List.all_eq_true.mp hk d hd)
        refine d_lenSetEq (d_eqTo (d_var (a1.mono e1)) (congrArg PyData.tuple e)) (by rw [List.length_map]; omega)
      · show Dp K H2 u (.bool (lotL y es))
        unfold lotL
        rw [decide_eq_true hl, Bool.true_and]
        exact hu
  · have hs : isD "tuple" d = false := by simpa using hs
    refine Evl.q_when (b := !(isD "tuple" d) || false) (Evl.et_or (Evl.et_not (t_ofB (d_isD (d_var a1)))) fun h => by rw [hs] at h; cases h) (fun hb1 H1 e1 => AsKit.s_ret (K := K) d_bl fun u H2 e2 hu => q u H2 (e1.trans e2) ?_) fun hb1 => by rw [hs] at hb1; cases hb1
    show Dp K H2 u (.bool (lotD y d))
    rw [lotD_no hs]
    exact hu
end
end K24

set_option maxHeartbeats 4000000
set_option autoImplicit false
namespace K24
open PySem PySem.Spec PyProof.Rows L2 AsSort AsKit
open Evl (Ex Ev EvT EvA)
abbrev sTextOrder : Stmt := top 22
abbrev sKindOrder : Stmt := top 24
abbrev sDeedsOn : Stmt := top 25
abbrev sTextBehind : Stmt := top 26
section
variable {P : Program} {w : World} {K : PySem.W.Frag} {mg : Str → Option Value} {base : Heap}
theorem sc_check_letters : FnScope ["letters"] ["letters"] (defScope sCheckLetters) := ⟨rfl, rfl, rfl, by decide +kernel, rfl, by decide +kernel, by decide +kernel⟩
abbrev non1 : List PyData → PyData := fun _ => .none
abbrev spCheckLetters (K : PySem.W.Frag) : Sp := spP K (fun ds => ∃ d, ds = [d] ∧ Tx d ∧ isLettersD d = true) non1
theorem c_check_letters (D : Df K mg "check_letters" sCheckLetters) (C1 : Cl P w K mg base 1 "is_letters" (spIsLetters K) []) : Cl P w K mg base 2 "check_letters" (spCheckLetters K) [] := by
  refine cl_of D sc_check_letters (len_sp fun ds ⟨d, h, _⟩ => by rw [h]; rfl) (fun _ _ _ _ _ _ us hl => match us, hl with | [_], _ => rfl) fun f cdv A outer s H vs Q E hr h => ?_
  obtain ⟨ds, hd, ⟨d, rfl, ht, hk⟩, q⟩ := h
  obtain ⟨v, rfl, h0⟩ := dp1 hd
  refine ⟨_, pss_one (ps_if (pt_not (pt_val (C8.pe_c C1 hr (by decide) (by rfl) (pa_cons (pv 0) pa_nil)))) pss_never pss_nil), ?_⟩
  exact Evl.s_if (b := !(isLettersD d)) (Evl.et_not (t_ofB (d_call (ds_cons (d_var ⟨_, rfl, h0⟩) ds_nil) ⟨d, rfl, ht⟩))) (fun hb1 => by rw [hk] at hb1; cases hb1) fun _ H1 e1 => q .non H1 e1 .non
theorem sc_check_text : FnScope ["letters", "text"] ["letters", "text"] (defScope sCheckText) := ⟨rfl, rfl, rfl, by decide +kernel, rfl, by decide +kernel, by decide +kernel⟩
abbrev spCheckText (K : PySem.W.Frag) : Sp := spP K (fun ds => ∃ y d, ds = [.str y, d] ∧ Tx d ∧ withinD y 40 d = true) non1
theorem c_check_text (D : Df K mg "check_text" sCheckText) (g40 : Gn mg "LONGEST_TEXT" 40) (C1 : Cl P w K mg base 2 "is_text_within" (spIsTextWithin K) []) : Cl P w K mg base 3 "check_text" (spCheckText K) [] := by
  refine cl_of D sc_check_text (len_sp fun ds ⟨y, d, h, _⟩ => by rw [h]; rfl) (fun _ _ _ _ _ _ us hl => match us, hl with | [_, _], _ => rfl) fun f cdv A outer s H vs Q E hr h => ?_
  obtain ⟨ds, hd, ⟨y, d, rfl, ht, hk⟩, q⟩ := h
  obtain ⟨v, v2, rfl, h0, h1⟩ := dp2 hd
  refine ⟨_, pss_one (ps_if (pt_not (pt_val (C8.pe_c C1 hr (by decide) (by rfl) (pa_cons (pv 0) (pa_cons (pv 1) (pa_cons (pe_gn g40) pa_nil)))))) pss_never pss_nil), ?_⟩
  exact Evl.s_if (b := !(withinD y 40 d)) (Evl.et_not (t_ofB (d_call (ds_cons (d_var ⟨_, rfl, h0⟩) (ds_cons (d_var ⟨_, rfl, h1⟩) (ds_cons d_int ds_nil))) ⟨y, d, 40, rfl, ht⟩))) (fun hb1 => by rw [hk] at hb1; cases hb1) fun _ H1 e1 => q .non H1 e1 .non
theorem sc_check_kinds : FnScope ["letters", "kinds"] ["letters", "kinds"] (defScope sCheckKinds) := ⟨rfl, rfl, rfl, by decide +kernel, rfl, by decide +kernel, by decide +kernel⟩
abbrev spCheckKinds (K : PySem.W.Frag) : Sp := spP K (fun ds => ∃ y d, ds = [.str y, d] ∧ TxL d ∧ lotD y d = true) non1
theorem c_check_kinds (D : Df K mg "check_kinds" sCheckKinds) (C1 : Cl P w K mg base 4 "is_lot" (spIsLot K) []) : Cl P w K mg base 5 "check_kinds" (spCheckKinds K) [] := by
  refine cl_of D sc_check_kinds (len_sp fun ds ⟨y, d, h, _⟩ => by rw [h]; rfl) (fun _ _ _ _ _ _ us hl => match us, hl with | [_, _], _ => rfl) fun f cdv A outer s H vs Q E hr h => ?_
  obtain ⟨ds, hd, ⟨y, d, rfl, ht, hk⟩, q⟩ := h
  obtain ⟨v, v2, rfl, h0, h1⟩ := dp2 hd
  refine ⟨_, pss_one (ps_if (pt_not (pt_val (C8.pe_c C1 hr (by decide) (by rfl) (pa_cons (pv 0) (pa_cons (pv 1) pa_nil))))) pss_never pss_nil), ?_⟩
  exact Evl.s_if (b := !(lotD y d)) (Evl.et_not (t_ofB (d_call (ds_cons (d_var ⟨_, rfl, h0⟩) (ds_cons (d_var ⟨_, rfl, h1⟩) ds_nil)) ⟨y, d, rfl, ht⟩))) (fun hb1 => by rw [hk] at hb1; cases hb1) fun _ H1 e1 => q .non H1 e1 .non
/-- letters, kinds, a text, as they should be -/
def Okay (l k t : PyData) : Prop := ∃ (y z : Str) (ps : List (Str × Str)), l = .str y ∧ k = .tuple (ps.map kD) ∧ t = .str z ∧ PyData.strOk y = true ∧ y.length ≤ 40000 ∧ isLetS y = true ∧ z.length ≤ 40 ∧ allIn y z = true ∧ ps.length ≤ 12 ∧ ps.Nodup ∧
  ∀ p ∈ ps, p.1.length ≤ 3 ∧ p.2.length ≤ 1 ∧ allIn y p.1 = true ∧ allIn y p.2 = true ∧ p.1 ≠ p.2
theorem pair_kD (p : Str × Str) : pairOf (kD p) = p := rfl
theorem lot_ok {y : Str} {ps : List (Str × Str)} (h1 : ps.length ≤ 12) (h2 : ps.Nodup) (h3 : ∀ p ∈ ps, p.1.length ≤ 3 ∧ p.2.length ≤ 1 ∧ allIn y p.1 = true ∧ allIn y p.2 = true ∧ p.1 ≠ p.2) : lotD y (.tuple (ps.map kD)) = true := by
  show lotL y (ps.map kD) = true
  unfold lotL
  rw [List.length_map, decide_eq_true h1, Bool.true_and, List.map_map]
  have e : ps.map (pairOf ∘ kD) = ps := (List.map_congr_left fun p _ => pair_kD p).trans (List.map_id' ps)
  rw [e, decide_eq_true h2, Bool.and_true, List.all_map]
  refine List.all_eq_true.mpr fun p hp => ?_
  obtain ⟨a, b, c, d, n⟩ := h3 p hp
  show ((withinS y p.1 3 && withinS y p.2 1) && !decide (p.1 = p.2)) = true
  unfold withinS
  rw [c, d, decide_eq_false n, decide_eq_true (by omega : (p.1.length : Int) ≤ 3), decide_eq_true (by omega : (p.2.length : Int) ≤ 1)]
  rfl
theorem tx_kinds {ps : List (Str × Str)} (h3 : ∀ p ∈ ps, p.1.length ≤ 3 ∧ p.2.length ≤ 1) : TxL (.tuple (ps.map kD)) := fun ds e d hd es e2 u hu => by
  cases e
  obtain ⟨p, hp, rfl⟩ := List.mem_map.mp hd
  have z := h3 p hp
  cases e2
  intro x hx
  rcases List.mem_cons.mp hu with rfl | hu
  · cases hx
    omega
  · rcases List.mem_cons.mp hu with rfl | hu
    · cases hx
      omega
    · cases hu
abbrev spCheckDeedsOf (K : PySem.W.Frag) : Sp := spP K (fun ds => ∃ l k t, ds = [l, k, t] ∧ Okay l k t) non1
theorem sc_text_order : FnScope ["text"] ["text"] (defScope sTextOrder) := ⟨rfl, rfl, rfl, by decide +kernel, rfl, by decide +kernel, by decide +kernel⟩
def oT (z : Str) : PyData := .tuple [.int (z.length : Int), .str z]
def ordT : PyData → PyData
  | .str z => oT z
  | _ => .none
abbrev spTextOrder (K : PySem.W.Frag) : Sp := spP K (fun ds => ∃ z, ds = [.str z] ∧ z.length ≤ 40000) (one ordT)
theorem c_text_order (D : Df K mg "text_order" sTextOrder) (hb : Bl mg) : Kl P w K mg base 1 "text_order" ["text"] (spTextOrder K) := by
  refine kl_of D sc_text_order (len_sp fun ds ⟨z, h, _⟩ => by rw [h]; rfl) (fun _ _ _ _ _ _ us hl => match us, hl with | [_], _ => rfl) fun f cdv A outer s H vs Q E hr h => ?_
  obtain ⟨ds, hd, ⟨z, rfl, hz⟩, q⟩ := h
  obtain ⟨v, rfl, h0⟩ := dp1 hd
  have a0 : At K (start ["text"] [v]) H 0 (.str z) := ⟨_, rfl, h0⟩
  exact ⟨_, pss_one (ps_ret (pe_tup (pa_cons (pe_lenS hb (pv 0)) (pa_cons (pv 0) pa_nil)))), AsKit.s_ret (K := K) (d_tup (ds_cons (d_lenS (d_var a0) (by omega)) (ds_cons (d_var a0) ds_nil)) (by show 2 ≤ 100000; decide)) q⟩
abbrev nKindOrder : List Str := ["kind", "left", "right"]
theorem sc_kind_order : FnScope nKindOrder ["kind"] (defScope sKindOrder) := ⟨rfl, rfl, rfl, by decide +kernel, rfl, by decide +kernel, by decide +kernel⟩
def oK (p : Str × Str) : PyData := .tuple [oT p.1, oT p.2]
def ordK (d : PyData) : PyData := oK (pairOf d)
abbrev spKindOrder (K : PySem.W.Frag) : Sp := spP K (fun ds => ∃ p : Str × Str, ds = [kD p] ∧ p.1.length ≤ 40000 ∧ p.2.length ≤ 40000) (one ordK)
theorem c_kind_order (D : Df K mg "kind_order" sKindOrder) (C1 : Kl P w K mg base 1 "text_order" ["text"] (spTextOrder K)) : Kl P w K mg base 2 "kind_order" ["kind"] (spKindOrder K) := by
  refine kl_of D sc_kind_order (len_sp fun ds ⟨z, h, _⟩ => by rw [h]; rfl) (fun _ _ _ _ _ _ us hl => match us, hl with | [_], _ => rfl) fun f cdv A outer s H vs Q E hr h => ?_
  obtain ⟨ds, hd, ⟨p, rfl, hz1, hz2⟩, q⟩ := h
  obtain ⟨v, rfl, h0⟩ := dp1 hd
  refine ⟨_, pss_cons (ps_asg (pv 0) (pg_tup rfl (pgs_cons (pg_name (i := 1) sc_kind_order.nd rfl (.inl rfl)) (pgs_cons (pg_name (i := 2) sc_kind_order.nd rfl (.inl rfl)) pgs_nil))))
    (pss_one (ps_ret (pe_tup (pa_cons (C8.pe_c C1.cl hr (by decide) (by rfl) (pa_cons (pv 1) pa_nil)) (pa_cons (C8.pe_c C1.cl hr (by decide) (by rfl) (pa_cons (pv 2) pa_nil)) pa_nil))))), ?_⟩
  refine ⟨v, rfl, g_two h0 fun va vb ha hb2 => ?_⟩
  have c1 : At K (((start nKindOrder [v]).set 1 (some va)).set 2 (some vb)) H 1 (.str p.1) := ⟨_, rfl, ha⟩
  have c2 : At K (((start nKindOrder [v]).set 1 (some va)).set 2 (some vb)) H 2 (.str p.2) := ⟨_, rfl, hb2⟩
  exact AsKit.s_ret (K := K) (d_tup (ds_cons (d_call (ds_cons (d_var c1) ds_nil) ⟨p.1, rfl, hz1⟩) (ds_cons (d_call (ds_cons (d_var c2) ds_nil) ⟨p.2, rfl, hz2⟩) ds_nil)) (by show 2 ≤ 100000; decide)) q
end
end K24

set_option maxHeartbeats 4000000
set_option autoImplicit false
/-! the order of kinds, sorted and chosen from. -/
namespace K24
open PySem PySem.Spec PyProof.Rows L2 AsSort AsKit PySem.W
theorem len_eqS {a b : Str} (h : a.cps.toList = b.cps.toList) : a = b := PySem.W.str_of_cps h
/-- the flat key of the law's lambda -/
def fK (p : Str × Str) : PyData := .tuple [.int (p.1.length : Int), .str p.1, .int (p.2.length : Int), .str p.2]
theorem toks_oK (p : Str × Str) : keyToks (oK p) = [.inl 1, .inl 1, .inl (p.1.length : Int), .inl 1, .inr p.1.cps.toList, .inl 0, .inl 1, .inl 1, .inl (p.2.length : Int), .inl 1, .inr p.2.cps.toList, .inl 0, .inl 0] := by
  simp [oK, oT, keyToks, keyToksAll]
theorem toks_fK (p : Str × Str) : keyToks (fK p) = [.inl 1, .inl (p.1.length : Int), .inl 1, .inr p.1.cps.toList, .inl 1, .inl (p.2.length : Int), .inl 1, .inr p.2.cps.toList, .inl 0] := by
  simp [fK, keyToks, keyToksAll]
theorem lex_cong {x y : Int ⊕ List Nat} {l m l' m' : List (Int ⊕ List Nat)} (h : lexLt itemOrd l m = lexLt itemOrd l' m') : lexLt itemOrd (x :: l) (y :: m) = lexLt itemOrd (x :: l') (y :: m') := by
  by_cases e : x = y
  · subst e
    exact (lex_self (O := itemOrd) x l m).trans (h.trans (lex_self (O := itemOrd) x l' m').symm)
  · exact (lex_diff (O := itemOrd) e).trans (lex_diff (O := itemOrd) e).symm
theorem lexL {x : Int ⊕ List Nat} {l m l' m' : List (Int ⊕ List Nat)} (h : lexLt itemOrd l m = lexLt itemOrd l' m') : lexLt itemOrd (x :: l) (x :: m) = lexLt itemOrd l' m' := (lex_self (O := itemOrd) x l m).trans h
theorem lexR {x : Int ⊕ List Nat} {l m l' m' : List (Int ⊕ List Nat)} (h : lexLt itemOrd l m = lexLt itemOrd l' m') : lexLt itemOrd l m = lexLt itemOrd (x :: l') (x :: m') := h.trans (lex_self (O := itemOrd) x l' m').symm
theorem lt_same (p q : Str × Str) : dataLt (oK p) (oK q) = dataLt (fK p) (fK q) := by
  unfold dataLt
  rw [toks_oK, toks_oK, toks_fK, toks_fK]
  refine lexL (lex_cong (lex_cong (lex_cong (lex_cong (lexL (lexL ?_))))))
  exact lex_cong (lex_cong (lex_cong (lex_cong (lexL rfl))))
/-- the order of kinds -/
def leO (p q : Str × Str) : Bool := !dataLt (oK q) (oK p)
theorem toks_inj {p q : Str × Str} (h : keyToks (oK p) = keyToks (oK q)) : p = q := by
  rw [toks_oK, toks_oK] at h
  simp only [List.cons.injEq, Sum.inl.injEq, Sum.inr.injEq, true_and, and_true] at h
  exact Prod.ext (len_eqS h.2.1) (len_eqS h.2.2.2)
theorem leO_total (p q : Str × Str) : (leO p q || leO q p) = true := by
  unfold leO
  cases h1 : dataLt (oK q) (oK p) with
  | false => rfl
  | true =>
    cases h2 : dataLt (oK p) (oK q) with
    | false => rfl
    | true =>
      have z : lexLt itemOrd (keyToks (oK p)) (keyToks (oK p)) = true := lex_trans (O := itemOrd) _ _ _ h2 h1
      rw [lex_irrefl (O := itemOrd)] at z
      cases z
theorem leO_anti {p q : Str × Str} (h1 : leO p q = true) (h2 : leO q p = true) : p = q := by
  unfold leO at h1 h2
  exact toks_inj (lex_total (O := itemOrd) _ _ ((Bool.not_eq_true' _).mp h2) ((Bool.not_eq_true' _).mp h1))
theorem leO_trans (p q r : Str × Str) (h1 : leO p q = true) (h2 : leO q r = true) : leO p r = true := by
  unfold leO at h1 h2 ⊢
  rw [Bool.not_eq_true'] at h1 h2 ⊢
  cases h : dataLt (oK r) (oK p) with
  | false => rfl
  | true =>
    cases h3 : dataLt (oK p) (oK q) with
    | true =>
      have z : dataLt (oK r) (oK q) = true := lex_trans (O := itemOrd) _ _ _ h h3
      rw [h2] at z
      cases z
    | false =>
      have e := toks_inj (lex_total (O := itemOrd) _ _ h1 h3)
      rw [e] at h2
      rw [h] at h2
      cases h2
def sortO (ps : List (Str × Str)) : List (Str × Str) := ps.mergeSort leO
theorem sortO_filter (f : Str × Str → Bool) (ps : List (Str × Str)) : (sortO ps).filter f = sortO (ps.filter f) := by
  unfold sortO
  refine List.Perm.eq_of_pairwise (le := fun a b => leO a b = true) (fun a b _ _ h1 h2 => leO_anti h1 h2) ?_ ?_ ?_
  · exact (List.pairwise_mergeSort (le := leO) leO_trans leO_total ps).filter f
  · exact List.pairwise_mergeSort (le := leO) leO_trans leO_total _
  · exact ((List.mergeSort_perm ps leO).filter f).trans (List.mergeSort_perm (ps.filter f) leO).symm
theorem sortD_kinds (ps : List (Str × Str)) : sortD (fun d => one ordK [d]) (ps.map kD) = (sortO ps).map kD := by
  unfold sortD sortO
  refine (List.map_mergeSort fun a _ b _ => ?_).symm
  rw [dataLe_eq]
  rfl
/-- the flat key, by the pair's data -/
def flatK (d : PyData) : PyData := fK (pairOf d)
theorem sortD_flat (ps : List (Str × Str)) : sortD (fun d => one flatK [d]) (ps.map kD) = (sortO ps).map kD := by
  unfold sortD sortO
  refine (List.map_mergeSort fun a _ b _ => ?_).symm
  rw [dataLe_eq]
  show leO a b = !dataLt (fK b) (fK a)
  unfold leO
  rw [lt_same]
/-- does the kind fit the text at p -/
def hitB (t : Str) (p : Nat) (k : Str × Str) : Bool := decide ((t.cps.toList.drop p).take k.1.length = k.1.cps.toList)
theorem hit_cut (t : Str) (p : Nat) (k : Str × Str) : decide (cutS t (some (p : Int)) (some ((p + k.1.length : Nat) : Int)) = k.1) = hitB t p k := by
  unfold hitB
  rw [← cut_mid]
  by_cases h : cutS t (some (p : Int)) (some ((p + k.1.length : Nat) : Int)) = k.1
  · rw [decide_eq_true h, decide_eq_true (by rw [h])]
  · rw [decide_eq_false h, decide_eq_false fun z => h (len_eqS z)]
theorem hit_starts (t : Str) (p : Nat) (k : Str × Str) : Txt.startswith (cutS t (some (p : Int)) none) k.1 = hitB t p k := by
  have e : (cutS t (some (p : Int)) none).cps.toList.length = (cutS t (some (p : Int)) none).length := Array.length_toList
  have e2 : k.1.cps.toList.length = k.1.length := Array.length_toList
  unfold Txt.startswith hitB
  rw [StrLaws.subAt_eq, cut_from, List.drop_zero]
  rw [cut_from] at e
  by_cases h : (t.cps.toList.drop p).take k.1.length = k.1.cps.toList
  · have hl := congrArg List.length h
    rw [List.length_take] at hl
    rw [decide_eq_true h, h]
    have : decide (0 + k.1.length ≤ (cutS t (some (p : Int)) none).length) = true := decide_eq_true (by omega)
    rw [this]
    simp
  · rw [decide_eq_false h]
    have : ((t.cps.toList.drop p).take k.1.length == k.1.cps.toList) = false := by simpa using h
    rw [this, Bool.and_false]
/-- a deed -/
def dD (p : Nat) (k : Str × Str) : PyData := .tuple [.int (p : Int), .str k.1, .str k.2]
def hits (os : List (Str × Str)) (t : Str) (p : Nat) : List PyData := (os.filter (hitB t p)).map (dD p)
def hitsTo (os : List (Str × Str)) (t : Str) (n : Nat) : List PyData := (List.range n).flatMap (hits os t)
theorem hitsTo_succ (os : List (Str × Str)) (t : Str) (n : Nat) : hitsTo os t (n + 1) = hitsTo os t n ++ hits os t n := by
  unfold hitsTo
  rw [List.range_succ, List.flatMap_append]
  simp
/-- all deeds on a text, by the kinds -/
def deedsL (ps : List (Str × Str)) (t : Str) : List PyData := hitsTo (sortO ps) t (t.length + 1)
theorem hits_len (os : List (Str × Str)) (t : Str) (p : Nat) : (hits os t p).length ≤ os.length := by
  unfold hits
  rw [List.length_map]
  exact List.length_filter_le _ _
theorem hitsTo_len (os : List (Str × Str)) (t : Str) : ∀ n, (hitsTo os t n).length ≤ n * os.length
  | 0 => Nat.zero_le _
  | n + 1 => by
    rw [hitsTo_succ, List.length_append]
    have h1 := hitsTo_len os t n
    have h2 := hits_len os t n
    have h3 : (n + 1) * os.length = n * os.length + os.length := Nat.succ_mul _ _
    omega
theorem sortO_len (ps : List (Str × Str)) : (sortO ps).length = ps.length := List.length_mergeSort ..
theorem sortO_mem {ps : List (Str × Str)} {p : Str × Str} : p ∈ sortO ps ↔ p ∈ ps := (List.mergeSort_perm ps leO).mem_iff
theorem imm_dD (p : Nat) (k : Str × Str) : imm (dD p k) = true := rfl
theorem imm_hits (os : List (Str × Str)) (t : Str) (p : Nat) : immAll (hits os t p) = true := immAll_of fun d h => by
  obtain ⟨k, _, rfl⟩ := List.mem_map.mp h
  rfl
theorem imm_hitsTo (os : List (Str × Str)) (t : Str) (n : Nat) : immAll (hitsTo os t n) = true := immAll_of fun d h => by
  obtain ⟨p, _, h2⟩ := List.mem_flatMap.mp h
  exact imm_all (imm_hits os t p) d h2
/-- what sorted asks of the keys -/
theorem oK_alike (p q : Str × Str) : alike (oK p) (oK q) = true := by simp [oK, oT, alike, alikeAll]
theorem fK_alike (p q : Str × Str) : alike (fK p) (fK q) = true := by simp [fK, alike, alikeAll]
theorem oT_alike (p q : Str) : alike (oT p) (oT q) = true := by simp [oT, alike, alikeAll]
end K24

set_option maxHeartbeats 4000000
set_option autoImplicit false
namespace K24
open PySem PySem.Spec PyProof.Rows L2 AsSort AsKit
open Evl (Ex Ev EvT EvA)
section
variable {P : Program} {w : World} {K : PySem.W.Frag} {mg : Str → Option Value} {base : Heap}
abbrev nDeedsOn : List Str := ["kinds", "text", "ordered", "found", "place", "left", "right"]
theorem sc_deeds_on : FnScope nDeedsOn ["kinds", "text"] (defScope sDeedsOn) := ⟨rfl, rfl, rfl, by decide +kernel, rfl, by decide +kernel, by decide +kernel⟩
def pairsOf : PyData → List (Str × Str)
  | .tuple ds => ds.map pairOf
  | _ => []
def dn2 : PyData → PyData → PyData
  | k, .str t => .tuple (deedsL (pairsOf k) t)
  | _, _ => .none
theorem pairs_map (ps : List (Str × Str)) : pairsOf (.tuple (ps.map kD)) = ps := by
  show (ps.map kD).map pairOf = ps
  rw [List.map_map]
  exact (List.map_congr_left fun p _ => pair_kD p).trans (List.map_id' ps)
/-- kinds and a text that deeds_on takes -/
def Kt (k t : PyData) : Prop := ∃ (ps : List (Str × Str)) (z : Str), k = .tuple (ps.map kD) ∧ t = .str z ∧ z.length ≤ 400 ∧ ps.length ≤ 60 ∧ ∀ p ∈ ps, p.1.length ≤ 40 ∧ p.2.length ≤ 40 ∧ PyData.strOk p.1 = true ∧ PyData.strOk p.2 = true
abbrev spDeedsOn (K : PySem.W.Frag) : Sp := spP K (fun ds => ∃ k t, ds = [k, t] ∧ Kt k t) (two dn2)
theorem c_deeds_on (D : Df K mg "deeds_on" sDeedsOn) (hb : Bl mg) (C1 : Kl P w K mg base 2 "kind_order" ["kind"] (spKindOrder K)) : Cl P w K mg base 5 "deeds_on" (spDeedsOn K) [] := by
  refine cl_of D sc_deeds_on (len_sp fun ds ⟨k, t, h, _⟩ => by rw [h]; rfl) (fun _ _ _ _ _ _ us hl => match us, hl with | [_, _], _ => rfl) fun f cdv A outer s H vs Q E hr h => ?_
  obtain ⟨ds, hd, ⟨k, t, rfl, ps, z, rfl, rfl, hz, hp, hps⟩, q⟩ := h
  obtain ⟨v, v2, rfl, h0, h1⟩ := dp2 hd
  obtain ⟨f1, fd1, F1, hm1, kp1, b1⟩ := C1
  refine ⟨_, pss_cons (ps_set (i := 2) sc_deeds_on.nd rfl (.inl rfl) (pe_callBK (AsSort.cr_sortKey F1 hr b1) (by rfl) (hb _ (by decide +kernel)) (by decide +kernel) (pa_cons (pv 0) pa_nil) (pk_cons (pe_glob (v := .ref f1) (by rfl) hm1 rfl) pk_nil)))
    (pss_cons (ps_set (i := 3) sc_deeds_on.nd rfl (.inl rfl) (pe_lst pa_nil))
    (pss_cons (ps_for PassesOwn.never rfl (pi_range1 (by rfl) (hb _ (by decide +kernel)) (pa_cons (pe_op op_add (pe_lenS hb (pv 1)) pe_int) pa_nil)) (pg_name (i := 4) sc_deeds_on.nd rfl (.inl rfl))
      (pss_one (ps_for PassesOwn.never rfl (pi_list (pv 2)) (pg_tup rfl (pgs_cons (pg_name (i := 5) sc_deeds_on.nd rfl (.inl rfl)) (pgs_cons (pg_name (i := 6) sc_deeds_on.nd rfl (.inl rfl)) pgs_nil)))
        (pss_one (ps_if (pt_cmpR op_eq (pe_slice sl_str (pv 1) (po_some (pv 4)) (po_some (pe_op op_add (pv 4) (pe_lenS hb (pv 5))))) (pv 5) (nomark _))
          (pss_one (ps_expr (pe_bm PySem.F.plainAttrs_list PySem.F.slot_list_append PySem.F.type_list_append mt_append (pv 3) (pa_cons (pe_tup (pa_cons (pv 4) (pa_cons (pv 5) (pa_cons (pv 6) pa_nil)))) pa_nil)))) pss_nil)))))
    (pss_one (ps_ret (pe_tupQ hb (pv 3)))))), ?_⟩
  cases h0 with
  | tup hq hl =>
    rename_i a xs
    refine ⟨.ref a, rfl, ?_⟩
    refine ⟨a, xs, ps.map kD, rfl, rfl, .inr hq, hl, fun d hd => ?_, fun d hd d' hd' => ?_, .inl fun d hd => ?_, ?_, fun d hd => ?_, fun o ys G no eG hG hys => ?_⟩
    · obtain ⟨p, hp1, rfl⟩ := List.mem_map.mp hd
      exact ⟨p, rfl, by have := (hps p hp1).1; omega, by have := (hps p hp1).2.1; omega⟩
    · obtain ⟨x, hx, rfl⟩ := List.mem_map.mp hd
      obtain ⟨y, hy, rfl⟩ := List.mem_map.mp hd'
      exact oK_alike _ _
    · obtain ⟨x, hx, rfl⟩ := List.mem_map.mp hd
      exact ⟨_, _, rfl⟩
    · refine immAll_of fun d hd => ?_
      obtain ⟨x, hx, rfl⟩ := List.mem_map.mp hd
      rfl
    · obtain ⟨x, hx, rfl⟩ := List.mem_map.mp hd
      show (oK (pairOf (kD x))).depth ≤ 50
      simp [oK, oT, PyData.depth, PyData.depthAll]
    rw [sortD_kinds] at hys
    have hO : Dp K G (.ref o) (.list ((sortO ps).map kD)) := .lst (Evl.sq_of hG) hys
    have hz2 : z.cps.toList.length = z.length := Array.length_toList
    -- found = []
    refine ⟨Evl.sz_of (Nat.zero_le _), fun l nl => ?_⟩
    have v2z : v2 = .str z := by cases h1; rfl
    subst v2z
    have a1 : ∀ (x2 x3 x4 x5 x6 : Option V) (H' : Hp), At K [some (.ref a), some (.str z), x2, x3, x4, x5, x6] H' 1 (.str z) := fun _ _ _ _ _ _ => ⟨_, rfl, .str z⟩
    have A0 : Ac K G l [] (upd G l (.lst [])) := ac_new nl (Ex.new nl) upd_same
    have hos := sortO_len ps
    refine Evl.q_forR1 (n := (z.length : Int) + 1) (ds_ev (K := K) (ds_cons (d_arI (g := fun i j => i + j) (d_lenS (d_var (a1 _ _ _ _ _ _)) (by omega)) d_int) ds_nil)) (by omega)
      (fun i σ' H' => ∃ x4 x5 x6, σ' = [some (.ref a), some (.str z), some (.ref o), some (.ref l), x4, x5, x6] ∧ Ac K G l (hitsTo (sortO ps) z i) H') (fun H1 e1 => ⟨_, _, _, rfl, A0.mono e1⟩) (fun i σ' H' hi hW => ?_) fun σ' H' hW => ?_
    · obtain ⟨x4, x5, x6, rfl, hA⟩ := hW
      have hi2 : i ≤ z.length := by omega
      refine s_forLD (K := K) (i := 2) (H0 := G) rfl hO hA.2.1 (fun j σ' H' => ∃ x5 x6, σ' = [some (.ref a), some (.str z), some (.ref o), some (.ref l), some (.int (i : Int)), x5, x6] ∧ Ac K G l (hitsTo (sortO ps) z i ++ (((sortO ps).take j).filter (hitB z i)).map (dD i)) H') ⟨_, _, rfl, by rw [List.take_zero]; show Ac K G l (_ ++ []) _; rw [List.append_nil]; exact hA⟩ (fun j σ' H' ⟨_, _, _, p⟩ => p.2.1) (fun j d x σ' H' hj hx hW => ?_) fun σ' H' hW => ?_
      · obtain ⟨y5, y6, rfl, hB⟩ := hW
        rw [List.getElem?_map] at hj
        cases hk : (sortO ps)[j]? with
        | none => rw [hk] at hj; cases hj
        | some kk =>
          rw [hk] at hj
          cases hj
          have hmem : kk ∈ ps := sortO_mem.mp (List.mem_of_getElem? hk)
          have hkl0 := hps kk hmem
          have hkl : kk.1.length ≤ 40 ∧ kk.2.length ≤ 40 := ⟨hkl0.1, hkl0.2.1⟩
          have ek : (sortO ps).take (j + 1) = (sortO ps).take j ++ [kk] := by rw [List.take_add_one, hk]; simp
          refine g_two hx fun va vb ha hb2 => ?_
          have c1 : At K [some (.ref a), some (.str z), some (.ref o), some (.ref l), some (.int (i : Int)), some va, some vb] H' 1 (.str z) := ⟨_, rfl, .str z⟩
          have c4 : At K [some (.ref a), some (.str z), some (.ref o), some (.ref l), some (.int (i : Int)), some va, some vb] H' 4 (.int (i : Int)) := ⟨_, rfl, .int _⟩
          have c5 : At K [some (.ref a), some (.str z), some (.ref o), some (.ref l), some (.int (i : Int)), some va, some vb] H' 5 (.str kk.1) := ⟨_, rfl, ha⟩
          have c6 : At K [some (.ref a), some (.str z), some (.ref o), some (.ref l), some (.int (i : Int)), some va, some vb] H' 6 (.str kk.2) := ⟨_, rfl, hb2⟩
          refine Evl.s_if (b := hitB z i kk) (Evl.et_is (t_ofD (K := K) (d_eqS (d_slS (lo := some (i : Int)) (hi := some (((i + kk.1.length : Nat) : Int))) (d_var c1) (p_some (d_var c4)) (p_some (d_eqTo (d_arI (g := fun i j => i + j) (d_var c4) (d_lenS (d_var c5) (by omega))) (by rw [Int.natCast_add]))) (by omega)) (d_var c5))) (hit_cut z i kk)) (fun hh H1 e1 => ?_) fun hh H1 e1 => ?_
          · refine s_appD (K := K) (i := 3) (H0 := G) rfl (hB.mono e1) (d := dD i kk) (d_tup (ds_cons (d_var (c4.mono e1)) (ds_cons (d_var (c5.mono e1)) (ds_cons (d_var (c6.mono e1)) ds_nil))) (by show 3 ≤ 100000; decide)) ?_ rfl ?_ fun H2 hC => ⟨_, _, rfl, ?_⟩
            · refine immAll_of fun d hd => ?_
              rcases List.mem_append.mp hd with hd | hd
              · exact imm_all (imm_hitsTo _ _ _) d hd
              · obtain ⟨x, _, rfl⟩ := List.mem_map.mp hd
                rfl
            · rw [List.length_append, List.length_map]
              have l1 := hitsTo_len (sortO ps) z i
              have l2 := List.length_filter_le (hitB z i) ((sortO ps).take j)
              have l3 := List.length_take_le' j (sortO ps)
              have l4 : i * (sortO ps).length ≤ 400 * 60 := Nat.mul_le_mul (by omega) (by omega)
              omega
            · rw [ek, List.filter_append, List.filter_cons, if_pos hh, List.map_append, ← List.append_assoc]
              exact hC
          · refine ⟨_, _, rfl, ?_⟩
            rw [ek, List.filter_append, List.filter_cons, if_neg (by rw [hh]; decide), List.map_append]
            show Ac K G l (_ ++ (_ ++ [])) H1
            rw [List.append_nil]
            exact hB.mono e1
      · obtain ⟨y5, y6, rfl, hB⟩ := hW
        rw [List.length_map, List.take_length] at hB
        refine ⟨_, _, _, rfl, ?_⟩
        rw [hitsTo_succ]
        exact hB
    · obtain ⟨x4, x5, x6, rfl, hA⟩ := hW
      have en : ((z.length : Int) + 1).toNat = z.length + 1 := by omega
      rw [en] at hA
      refine AsKit.s_ret (K := K) (d_tupOf (d_var ⟨_, rfl, ac_dp hA⟩)) fun u H2 e2 hu => q u H2 (eG.trans (hA.2.1.trans e2)) ?_
      show Dp K H2 u (.tuple (deedsL (pairsOf (.tuple (ps.map kD))) z))
      rw [pairs_map]
      exact hu
end
end K24

set_option maxHeartbeats 4000000
set_option autoImplicit false
namespace AsKit
open PySem PySem.Spec PyProof.Rows L2 AsSort
open Evl (Ex Ev EvT EvA)
section
variable {X : Cx}
/-- x in a tuple of data -/
def rInT (K : PySem.W.Frag) : R2 := fun x y H Q => ∃ d ds, Dp K H x d ∧ Dp K H y (.tuple ds) ∧ SeqAt.shaped d = true ∧ PyData.canLayAll0 ds = true ∧ Q (.bl (ds.any fun z => PyData.eqv z d)) H
theorem op_inT (hu : X.A.units + 65 < cLine) : OpR X (compareOp .In) (rInT X.K) := by
  intro pins s σ H x y v u Q I rx ry h
  obtain ⟨d, ds, hd, he, sd, se, q⟩ := h
  obtain ⟨as, r1⟩ := Dp.reads I d x v hd rx
  obtain ⟨bs, r2⟩ := Dp.reads I (.tuple ds) y u he ry
  exact SeqAt.in_tuple_reads r2 r1 se (SeqAt.canLay_of_shaped sd) (room_in_shaped sd hu) ⟨.bl _, H, I, rfl, q⟩
/-- x not in a tuple of data -/
def rNotInT (K : PySem.W.Frag) : R2 := fun x y H Q => ∃ d ds, Dp K H x d ∧ Dp K H y (.tuple ds) ∧ SeqAt.shaped d = true ∧ PyData.canLayAll0 ds = true ∧ Q (.bl (!(ds.any fun z => PyData.eqv z d))) H
theorem op_notInT (hu : X.A.units + 65 < cLine) : OpR X (compareOp .NotIn) (rNotInT X.K) := by
  intro pins s σ H x y v u Q I rx ry h
  obtain ⟨d, ds, hd, he, sd, se, q⟩ := h
  obtain ⟨as, r1⟩ := Dp.reads I d x v hd rx
  obtain ⟨bs, r2⟩ := Dp.reads I (.tuple ds) y u he ry
  exact SeqAt.notIn_tuple_reads r2 r1 se (SeqAt.canLay_of_shaped sd) (room_in_shaped sd hu) ⟨.bl _, H, I, rfl, q⟩
end
section
variable {K : PySem.W.Frag} {σ : L2.St} {H : Hp} {ta tb : TE} {d : PyData} {ds : List PyData}
theorem d_notInT (h : EvD K ta σ H d) (h2 : EvD K tb σ H (.tuple ds)) (sd : SeqAt.shaped d = true) (se : PyData.canLayAll0 ds = true) : EvD K (tOp (rNotInT K) ta tb) σ H (.bool (!(ds.any fun z => PyData.eqv z d))) := fun H1 a Q q =>
  h H1 a _ fun v H2 u hd => h2 H2 (a.trans u) _ fun w H3 y he => ⟨d, ds, dp_ex y hd, he, sd, se, q _ H3 (u.trans y) (.bl _)⟩
theorem d_inT (h : EvD K ta σ H d) (h2 : EvD K tb σ H (.tuple ds)) (sd : SeqAt.shaped d = true) (se : PyData.canLayAll0 ds = true) : EvD K (tOp (rInT K) ta tb) σ H (.bool (ds.any fun z => PyData.eqv z d)) := fun H1 a Q q =>
  h H1 a _ fun v H2 u hd => h2 H2 (a.trans u) _ fun w H3 y he => ⟨d, ds, dp_ex y hd, he, sd, se, q _ H3 (u.trans y) (.bl _)⟩
end
end AsKit
namespace K24
open PySem PySem.Spec PyProof.Rows L2 AsSort AsKit
open Evl (Ex Ev EvT EvA)
section
variable {P : Program} {w : World} {K : PySem.W.Frag} {mg : Str → Option Value} {base : Heap}
abbrev nTextBehind : List Str := ["text", "deed", "place", "left", "right"]
theorem sc_text_behind : FnScope nTextBehind ["text", "deed"] (defScope sTextBehind) := ⟨rfl, rfl, rfl, by decide +kernel, rfl, by decide +kernel, by decide +kernel⟩
def bhS (z : Str) (p : Nat) (k : Str × Str) : Str := (cutS z none (some (p : Int)) ++ k.2) ++ cutS z (some ((p + k.1.length : Nat) : Int)) none
def dOf : PyData → Nat × (Str × Str)
  | .tuple [.int p, .str l, .str r] => (p.toNat, (l, r))
  | _ => (0, ("", ""))
theorem dOf_dD (p : Nat) (k : Str × Str) : dOf (dD p k) = (p, k) := rfl
def bh2 : PyData → PyData → PyData
  | .str z, d => .str (bhS z (dOf d).1 (dOf d).2)
  | _, _ => .none
abbrev spTextBehind (K : PySem.W.Frag) : Sp := spP K (fun ds => ∃ z p k, ds = [.str z, dD p k] ∧ z.length ≤ 40000 ∧ k.1.length ≤ 40 ∧ k.2.length ≤ 40) (two bh2)
theorem c_text_behind (D : Df K mg "text_behind" sTextBehind) (hb : Bl mg) : Cl P w K mg base 1 "text_behind" (spTextBehind K) [] := by
  refine cl_of D sc_text_behind (len_sp fun ds ⟨z, p, k, h, _⟩ => by rw [h]; rfl) (fun _ _ _ _ _ _ us hl => match us, hl with | [_, _], _ => rfl) fun f cdv A outer s H vs Q E hr h => ?_
  obtain ⟨ds, hd, ⟨z, p, k, rfl, hz, hk1, hk2⟩, q⟩ := h
  obtain ⟨v, v2, rfl, h0, h1⟩ := dp2 hd
  refine ⟨_, pss_cons (ps_asg (pv 1) (pg_tup rfl (pgs_cons (pg_name (i := 2) sc_text_behind.nd rfl (.inl rfl)) (pgs_cons (pg_name (i := 3) sc_text_behind.nd rfl (.inl rfl)) (pgs_cons (pg_name (i := 4) sc_text_behind.nd rfl (.inl rfl)) pgs_nil)))))
    (pss_one (ps_ret (pe_op op_add_str (pe_op op_add_str (pe_slice sl_str (pv 0) po_none (po_some (pv 2))) (pv 4)) (pe_slice sl_str (pv 0) (po_some (pe_op op_add (pv 2) (pe_lenS hb (pv 3)))) po_none)))), ?_⟩
  refine ⟨v2, rfl, g_three h1 fun va vb vc ha hb2 hc => ?_⟩
  have c0 : At K ((((start nTextBehind [v, v2]).set 2 (some va)).set 3 (some vb)).set 4 (some vc)) H 0 (.str z) := ⟨_, rfl, h0⟩
  have c2 : At K ((((start nTextBehind [v, v2]).set 2 (some va)).set 3 (some vb)).set 4 (some vc)) H 2 (.int (p : Int)) := ⟨_, rfl, ha⟩
  have c3 : At K ((((start nTextBehind [v, v2]).set 2 (some va)).set 3 (some vb)).set 4 (some vc)) H 3 (.str k.1) := ⟨_, rfl, hb2⟩
  have c4 : At K ((((start nTextBehind [v, v2]).set 2 (some va)).set 3 (some vb)).set 4 (some vc)) H 4 (.str k.2) := ⟨_, rfl, hc⟩
  have l1 := cut_len z none (some (p : Int))
  have l2 := cut_len z (some ((p + k.1.length : Nat) : Int)) none
  refine AsKit.s_ret (K := K) (d_addS (x := cutS z none (some (p : Int)) ++ k.2) (y := cutS z (some ((p + k.1.length : Nat) : Int)) none) (d_addS (d_slS (d_var c0) p_none (p_some (d_var c2)) (by omega)) (d_var c4) (by omega))
    (d_slS (d_var c0) (p_some (d_eqTo (d_arI (g := fun i j => i + j) (d_var c2) (d_lenS (d_var c3) (by omega))) (by rw [Int.natCast_add]))) p_none (by omega)) (by rw [add_len]; omega)) q
abbrev nIsDeed : List Str := ["kinds", "text", "value", "place", "left", "right"]
def dinD (k : PyData) (t : Str) (d : PyData) : Bool := (deedsL (pairsOf k) t).any fun e => PyData.eqv e d
def deedD (k : PyData) (t : Str) : PyData → Bool
  | .tuple [a, b, c] => isIntD a && dinD k t (.tuple [a, b, c])
  | _ => false
theorem deedD_no {k : PyData} {t : Str} {d : PyData} (h : isD "tuple" d = false) : deedD k t d = false := by
  cases d with
  | tuple z => rw [isD_tup1] at h; cases h
  | _ => rfl
theorem deedD_len {k : PyData} {t : Str} {ds : List PyData} (h : ds.length ≠ 3) : deedD k t (.tuple ds) = false := by
  match ds, h with
  | [], _ => rfl
  | [_], _ => rfl
  | [_, _], _ => rfl
  | [_, _, _], h => exact (h rfl).elim
  | _ :: _ :: _ :: _ :: _, _ => rfl
theorem three_of : ∀ {es : List PyData}, es.length = 3 → ∃ a b c, es = [a, b, c]
  | [a, b, c], _ => ⟨a, b, c, rfl⟩
def ido3 : PyData → PyData → PyData → PyData
  | k, .str t, d => .bool (deedD k t d)
  | _, _, _ => .none
theorem lay_deeds (ps : List (Str × Str)) (t : Str) (hps : ∀ p ∈ ps, PyData.strOk p.1 = true ∧ PyData.strOk p.2 = true) : PyData.canLayAll0 (deedsL ps t) = true := by
  have h : ∀ ds : List PyData, (∀ d ∈ ds, d.canLay0 = true) → PyData.canLayAll0 ds = true := by
    intro ds
    induction ds with
    | nil => intro _; simp [PyData.canLayAll0]
    | cons d ds ih =>
      intro h
      simp [PyData.canLayAll0, h d (List.mem_cons_self ..), ih fun z hz => h z (List.mem_cons_of_mem _ hz)]
  refine h _ fun d hd => ?_
  obtain ⟨p, _, h2⟩ := List.mem_flatMap.mp hd
  obtain ⟨k, hk, rfl⟩ := List.mem_map.mp h2
  have z := hps k (sortO_mem.mp ((List.mem_filter.mp hk).1))
  simp [dD, PyData.canLay0, PyData.canLayAll0, z.1, z.2]
abbrev spIsDeedOn (K : PySem.W.Frag) : Sp := spP K (fun ds => ∃ k t d, ds = [k, t, d] ∧ Kt k t ∧ SeqAt.shaped d = true) (three ido3)
theorem lay_kindsD (ps : List (Str × Str)) (hps : ∀ p ∈ ps, PyData.strOk p.1 = true ∧ PyData.strOk p.2 = true) : PyData.canLayAll0 (ps.map kD) = true := by
  induction ps with
  | nil => simp [PyData.canLayAll0]
  | cons p ps ih =>
    have z := hps p (List.mem_cons_self ..)
    rw [List.map_cons]
    simp [PyData.canLayAll0, ih fun q hq => hps q (List.mem_cons_of_mem _ hq), kD, PyData.canLay0, z.1, z.2]
theorem shaped_tail {a b c : PyData} (h : SeqAt.shaped (.tuple [a, b, c]) = true) : SeqAt.shaped (.tuple [b, c]) = true := by
  have h1 := SeqAt.canLay_of_shaped h
  have h2 := SeqAt.depth_of_shaped h
  unfold SeqAt.shaped
  have e1 : PyData.canLay0 (.tuple [a, b, c]) = (a.canLay0 && PyData.canLay0 (.tuple [b, c])) := by simp [PyData.canLay0, PyData.canLayAll0]
  have e2 : PyData.depth (.tuple [b, c]) ≤ PyData.depth (.tuple [a, b, c]) := by
    simp only [PyData.depth, PyData.depthAll]
    omega
  rw [e1] at h1
  rw [(Bool.and_eq_true_iff.mp h1).2, decide_eq_true (by omega)]
  rfl
theorem eqv_tup (xs ys : List PyData) : PyData.eqv (.tuple xs) (.tuple ys) = PyData.eqvAll xs ys := by rw [PyData.eqv]
theorem eqv_cons (x y : PyData) (xs ys : List PyData) : PyData.eqvAll (x :: xs) (y :: ys) = (PyData.eqv x y && PyData.eqvAll xs ys) := by rw [PyData.eqvAll]
theorem eqv_nil : PyData.eqvAll [] [] = true := by rw [PyData.eqvAll]
theorem eqv_strL {x : Str} {d : PyData} (h : PyData.eqv (.str x) d = true) : d = .str x := by
  cases d with
  | str y =>
    have e : PyData.eqv (.str x) (.str y) = (x == y) := by rw [PyData.eqv]
    rw [e] at h
    rw [eq_of_beq h]
  | _ => rw [PyData.eqv] at h; cases h
theorem eqv_strs (x : Str) : PyData.eqv (.str x) (.str x) = true := by
  have e : PyData.eqv (.str x) (.str x) = (x == x) := by rw [PyData.eqv]
  rw [e]
  exact beq_self_eq_true x
theorem eqv_ints (i j : Int) : PyData.eqv (.int i) (.int j) = (i == j) := by rw [PyData.eqv]
/-- the pair is one of the kinds -/
def memD (ps : List (Str × Str)) (b c : PyData) : Bool := (ps.map kD).any fun z => PyData.eqv z (.tuple [b, c])
theorem memD_pair {ps : List (Str × Str)} {b c : PyData} (h : memD ps b c = true) : ∃ p ∈ ps, b = .str p.1 ∧ c = .str p.2 := by
  obtain ⟨z, hz, e⟩ := List.any_eq_true.mp h
  obtain ⟨p, hp, rfl⟩ := List.mem_map.mp hz
  unfold kD at e
  rw [eqv_tup, eqv_cons, eqv_cons, eqv_nil, Bool.and_true, Bool.and_eq_true] at e
  exact ⟨p, hp, eqv_strL e.1, eqv_strL e.2⟩
theorem memD_iff {ps : List (Str × Str)} {p : Str × Str} : memD ps (.str p.1) (.str p.2) = true ↔ p ∈ ps := by
  constructor
  · intro h
    obtain ⟨q, hq, e1, e2⟩ := memD_pair h
    injection e1 with e1
    injection e2 with e2
    have : q = p := Prod.ext e1.symm e2.symm
    exact this ▸ hq
  · intro h
    refine List.any_eq_true.mpr ⟨kD p, List.mem_map.mpr ⟨p, h, rfl⟩, ?_⟩
    unfold kD
    rw [eqv_tup, eqv_cons, eqv_cons, eqv_nil, eqv_strs, eqv_strs]
    rfl
/-- what the program asks of a triple -/
def tripD (ps : List (Str × Str)) (t : Str) (a b c : PyData) : Bool := match a, b, c with
  | .int p, .str l, .str r => (decide (0 ≤ p) && decide (p ≤ (t.length : Int))) && (memD ps (.str l) (.str r) && hitB t p.toNat (l, r))
  | _, _, _ => false
theorem dinD_trip {ps : List (Str × Str)} {t : Str} {a b c : PyData} : (isIntD a && dinD (.tuple (ps.map kD)) t (.tuple [a, b, c])) = (isIntD a && tripD ps t a b c) := by
  by_cases ha : isIntD a = true
  · obtain ⟨p, rfl⟩ : ∃ p, a = .int p := by
      unfold isIntD at ha
      rw [Bool.and_eq_true] at ha
      have hn : ∀ y ∈ names7, y ≠ "int" → y ≠ "bool" → kitB y "int" = some false := by decide +kernel
      have hbb : isD "bool" (.bool true) = true := by decide +kernel
      cases a with
      | int p => exact ⟨p, rfl⟩
      | bool b => have := ha.2; simp only [isD, tyName] at this hbb; rw [hbb] at this; cases this
      | _ => exact absurd ha.1 (by unfold isD; rw [hn _ (ty7 _) (by show _ ≠ _; simp only [tyName]; decide) (by show _ ≠ _; simp only [tyName]; decide)]; decide)
    rw [ha, Bool.true_and, Bool.true_and]
    unfold dinD
    rw [pairs_map]
    rw [Bool.eq_iff_iff]
    constructor
    · intro h
      obtain ⟨e, he, q⟩ := List.any_eq_true.mp h
      obtain ⟨n, hn, h2⟩ := List.mem_flatMap.mp he
      obtain ⟨k, hk, rfl⟩ := List.mem_map.mp h2
      obtain ⟨k1, k2⟩ := List.mem_filter.mp hk
      have k3 := sortO_mem.mp k1
      have k4 := List.mem_range.mp hn
      unfold dD at q
      rw [eqv_tup, eqv_cons, eqv_cons, eqv_cons, eqv_nil, Bool.and_true, Bool.and_eq_true, Bool.and_eq_true, eqv_ints] at q
      obtain ⟨q1, q2, q3⟩ := q
      have q1 : (n : Int) = p := by simpa using q1
      subst q1
      rw [eqv_strL q2, eqv_strL q3]
      unfold tripD
      simp only [Bool.and_eq_true, decide_eq_true_eq]
      refine ⟨⟨by omega, by omega⟩, memD_iff.mpr k3, ?_⟩
      rw [Int.toNat_natCast]
      exact k2
    · intro h
      unfold tripD at h
      split at h
      · rename_i l r e0
        simp only [Bool.and_eq_true, decide_eq_true_eq] at h
        obtain ⟨⟨h1, h2⟩, h3, h4⟩ := h
        have e0' := e0
        cases e0'
        obtain ⟨n, rfl⟩ := Int.eq_ofNat_of_zero_le h1
        refine List.any_eq_true.mpr ⟨dD n (l, r), List.mem_flatMap.mpr ⟨n, List.mem_range.mpr (by omega), List.mem_map.mpr ⟨(l, r), List.mem_filter.mpr ⟨sortO_mem.mpr (memD_iff (p := (l, r)) |>.mp h3), ?_⟩, rfl⟩⟩, ?_⟩
        · simpa using h4
        · unfold dD
          rw [eqv_tup, eqv_cons, eqv_cons, eqv_cons, eqv_nil, eqv_ints, eqv_strs, eqv_strs]
          simp
      · cases h
  · rw [Bool.not_eq_true] at ha
    rw [ha]
    rfl
theorem isIntD_int {a : PyData} (ha : isIntD a = true) : ∃ p, a = .int p := by
  unfold isIntD at ha
  rw [Bool.and_eq_true] at ha
  have hn : ∀ y ∈ names7, y ≠ "int" → y ≠ "bool" → kitB y "int" = some false := by decide +kernel
  have hbb : isD "bool" (.bool true) = true := by decide +kernel
  cases a with
  | int p => exact ⟨p, rfl⟩
  | bool b => have := ha.2; simp only [isD, tyName] at this hbb; rw [hbb] at this; cases this
  | _ => exact absurd ha.1 (by unfold isD; rw [hn _ (ty7 _) (by show _ ≠ _; simp only [tyName]; decide) (by show _ ≠ _; simp only [tyName]; decide)]; decide)
theorem strOk_in {y z : Str} (h : PyData.strOk y = true) (h2 : allIn y z = true) : PyData.strOk z = true := by
  unfold PyData.strOk at h ⊢
  unfold allIn at h2
  rw [← Array.all_toList] at h ⊢
  refine List.all_eq_true.mpr fun c hc => ?_
  have hm : c ∈ y.cps.toList := of_decide_eq_true (List.all_eq_true.mp h2 c hc)
  exact List.all_eq_true.mp h c hm
theorem okay_kt {l k t : PyData} (h : Okay l k t) : Kt k t := by
  obtain ⟨y, z, ps, rfl, rfl, rfl, o0, o1, o2, o3, o4, o5, o6, o7⟩ := h
  refine ⟨ps, z, rfl, rfl, by omega, by omega, fun p hp => ?_⟩
  obtain ⟨a, b, c, d, e⟩ := o7 p hp
  exact ⟨by omega, by omega, strOk_in o0 c, strOk_in o0 d⟩
def ds3 : PyData → PyData → PyData → PyData
  | _, k, t => dn2 k t
abbrev spDeeds (K : PySem.W.Frag) : Sp := spP K (fun ds => ∃ l k t, ds = [l, k, t] ∧ Okay l k t) (three ds3)
abbrev nDone : List Str := ["letters", "kinds", "text", "deed", "behind"]
def do4 : PyData → PyData → PyData → PyData → PyData
  | _, _, t, d => bh2 t d
/-- a deed that can be done -/
def Deed (k t d : PyData) : Prop := ∃ (ps : List (Str × Str)) (z : Str) (p : Nat) (kk : Str × Str), k = .tuple (ps.map kD) ∧ t = .str z ∧ d = dD p kk ∧ dD p kk ∈ deedsL ps z ∧ kk ∈ ps ∧ (bhS z p kk).length ≤ 40
abbrev spDone (K : PySem.W.Frag) : Sp := spP K (fun ds => ∃ l k t d, ds = [l, k, t, d] ∧ Okay l k t ∧ Deed k t d) (four do4)
end
end K24

set_option maxHeartbeats 4000000
set_option autoImplicit false
/-! dicts whose values are all True: made by a comprehension or key by key; their keys as data. -/
namespace AsKit
open PySem PySem.Spec PyProof.Rows L2 AsSort
open Evl (Ex Ev EvT EvA)
section
variable {X : Cx}
theorem sw_dict {kx vx : Expr} {gs : List Comprehension} {scope : Scope} {pos py : Pos} {y : Str} {l : Nat} {env : Env} (hk : env.scope.kind = .function) (hy : env.scope.names.lookup y = some .local) (hl : (py.line == pos.line) = true)
    (ha : (scope.names.any fun (n, k) => n == y && (k == .local || k == .cell)) = false) : swapsWith (.DictComp kx vx gs scope pos) (some (.Name y py)) l env = pure true := by
  have k1 : env.kindOf y = some .local := hy
  have k2 : env.blockKind = .function := by simp only [Env.blockKind, hk]; rfl
  simp only [swapsWith, k2, k1, ha, Expr.pos, hl]; rfl
theorem ps_setDc {i : Nat} {y : Str} {py : Pos} {kx vx tg iter : Expr} {ifs : List Expr} {scope : Scope} {own : List (Str × Nat)} {pos spos : Pos} {wi : TI} {g : TG} {tt : TT} {tk tv : TE} (hc : X.calm = true) (hN : X.N.Nodup) (hy : X.N[i]? = some y) (hyl : X.env.scope.names.lookup y = some .local)
    (hsw : swapsWith (.DictComp kx vx [⟨tg, iter, ifs, 0⟩] scope pos) (some (.Name y py)) spos.line X.env = pure true) (hi : PI X tg iter wi) (ok : BlkOk X.N X.env.scope scope own)
    (hg : ∀ (s : Shared) (H : Hp) (C : Addr) (cl : List (Str × Addr)) (fp : List Addr), PG (X.blk s H scope (compEnvC scope cl C X.env) fp) tg g) (ht : ∀ (s : Shared) (H : Hp) (C : Addr) (cl : List (Str × Addr)) (fp : List Addr), PTs (X.blk s H scope (compEnvC scope cl C X.env) fp) ifs tt)
    (hk : ∀ (s : Shared) (H : Hp) (C : Addr) (cl : List (Str × Addr)) (fp : List Addr), PE (X.blk s H scope (compEnvC scope cl C X.env) fp) kx tk)
    (he : ∀ (s : Shared) (H : Hp) (C : Addr) (cl : List (Str × Addr)) (fp : List Addr), PE (X.blk s H scope (compEnvC scope cl C X.env) fp) vx tv) (hs : ∀ x, foldedSetIterable iter X.env x = pure x := by intro _; rfl) :
    PS X (.Assign [.Name y py] (.DictComp kx vx [⟨tg, iter, ifs, 0⟩] scope pos) spos) (tAsg (tDc wi g tt tk tv (own.map (·.2))) (gName i)) := by
  refine ⟨fun pins s σ H D I hw => ?_⟩
  rw [exec_Assign_Name_used _ _ _ _ hsw]
  apply wpAny_bind; apply wpAny_standAt; apply wpAny_bind
  show wpAny _ X.A (do let _ ← comprehension (.DictComp kx vx [⟨tg, iter, ifs, 0⟩] scope pos) scope X.env (firstIterPos [⟨tg, iter, ifs, 0⟩] pos) newDict false (eval iter X.env) (some (assign (.Name y py) X.env))) _ _ s
  have hw : tDc wi g tt tk tv (own.map (·.2)) σ H (fun x H1 => gName i x σ H1 D.nx) := hw
  refine wpAny_bind (thn (dc_core (Qf := fun _ s' => SP X pins D .next s') hc hN I hi ok hg ht hk he hs hw fun L C s' m H' J q hn f => ?_) fun _ s' hq => wpAny_pure (wpAny_pure hq))
  show wpAny _ _ (assign (.Name y py) X.env (.ref L)) _ _ _
  refine wpAny_assign_Name (store_ok2 (v := V.ref L) J hN hy (.inl hyl) rfl (fun s2 J2 ⟨a, sb, ha⟩ => ?_) (.inr hyl))
  obtain ⟨f0, f1, f2, f3, f4, f5⟩ := f
  have ne : C ≠ a := ha.elim (fun z => by rw [z]; exact f1) fun z e => f4 y a z e.symm
  exact ⟨m, hn.sameBut sb ne, fun h3 sb3 => ⟨_, H', J2.turned (t' := s2.toks) (fun b o hb e => (sb3.2 b hb).trans e) f0 f1 f3 f4 f5, q⟩⟩
end
abbrev Kvs := List (Key × V)
def putT (kvs : Kvs) (s : Str) : Kvs := putK kvs (.inr s) (.bl true)
def putsT (ss : List Str) : Kvs := ss.foldl putT []
theorem putsT_snoc (ss : List Str) (s : Str) : putsT (ss ++ [s]) = putT (putsT ss) s := by
  unfold putsT
  rw [List.foldl_append]
  rfl
theorem putT_len (kvs : Kvs) (s : Str) : (putT kvs s).length ≤ kvs.length + 1 := length_putK kvs _ _
theorem putT_mem {kvs : Kvs} {s : Str} {kv : Key × V} (h : kv ∈ putT kvs s) : kv.1 = .inr s ∨ ∃ kw ∈ kvs, kw.1 = kv.1 := by
  unfold putT putK at h
  split at h
  · obtain ⟨kw, h1, h2⟩ := List.mem_map.mp h
    split at h2
    · rw [← h2]
      exact .inr ⟨kw, h1, rfl⟩
    · rw [← h2]
      exact .inr ⟨kw, h1, rfl⟩
  · rcases List.mem_append.mp h with h | h
    · exact .inr ⟨kv, h, rfl⟩
    · rw [List.mem_singleton.mp h]
      exact .inl rfl
/-- all keys are texts of ss -/
def KeysIn (ss : List Str) (kvs : Kvs) : Prop := ∀ kv ∈ kvs, ∃ s ∈ ss, kv.1 = .inr s
theorem fold_in (ss : List Str) : ∀ (ts : List Str) (kvs : Kvs), (∀ t ∈ ts, t ∈ ss) → KeysIn ss kvs → KeysIn ss (ts.foldl putT kvs)
  | [], _, _, h => h
  | t :: ts, kvs, ht, h => fold_in ss ts (putT kvs t) (fun u hu => ht u (List.mem_cons_of_mem _ hu)) fun kv hkv => by
    rcases putT_mem hkv with e | ⟨kw, h1, h2⟩
    · exact ⟨t, ht t (List.mem_cons_self ..), e⟩
    · obtain ⟨s, hs, e⟩ := h kw h1
      exact ⟨s, hs, h2 ▸ e⟩
theorem putsT_in (ss : List Str) : KeysIn ss (putsT ss) := fold_in ss ss [] (fun _ h => h) fun _ h => nomatch h
theorem fold_len : ∀ (ts : List Str) (kvs : Kvs), (ts.foldl putT kvs).length ≤ kvs.length + ts.length
  | [], _ => Nat.le_refl _
  | t :: ts, kvs => by
    have h1 := fold_len ts (putT kvs t)
    have h2 := putT_len kvs t
    show (ts.foldl putT (putT kvs t)).length ≤ kvs.length + (ts.length + 1)
    omega
theorem putsT_len (ss : List Str) : (putsT ss).length ≤ ss.length := by
  exact Nat.le_trans (fold_len ss []) (Nat.le_of_eq (Nat.zero_add _))
def keyS : Key → Str
  | .inr s => s
  | .inl _ => ""
def strsOf (kvs : Kvs) : List Str := kvs.map fun kv => keyS kv.1
theorem keyS_of {ss : List Str} {kvs : Kvs} (h : KeysIn ss kvs) {kv : Key × V} (hkv : kv ∈ kvs) : kV kv.1 = .str (keyS kv.1) ∧ keyS kv.1 ∈ ss := by
  obtain ⟨s, hs, e⟩ := h kv hkv
  rw [e]
  exact ⟨rfl, hs⟩
theorem strs_in {ss : List Str} {kvs : Kvs} (h : KeysIn ss kvs) : ∀ s ∈ strsOf kvs, s ∈ ss := fun s hs => by
  obtain ⟨kv, h1, rfl⟩ := List.mem_map.mp hs
  exact (keyS_of h h1).2
theorem keysV {ss : List Str} {kvs : Kvs} (h : KeysIn ss kvs) : (kvs.map fun kv => kV kv.1) = (strsOf kvs).map V.str := by
  unfold strsOf
  rw [List.map_map]
  exact List.map_congr_left fun kv hkv => (keyS_of h hkv).1
theorem dp_strs {K : PySem.W.Frag} {H : Hp} : ∀ ss : List Str, DpAll K H (ss.map V.str) (ss.map PyData.str)
  | [] => .nil
  | s :: ss => .cons (.str s) (dp_strs ss)
theorem lc_keys {d : Addr} {o : Obj} {kvs : Kvs} {g : TG} {tt : TT} {te : TE} {vs : List Nat} {σ : L2.St} {H1 : Hp} {D : Addr} {Qd : Hp → Prop} (Pv : Nat → Hp → Prop) (h0 : Pv 0 (upd H1 D (.lst []))) (hl : ∀ i H, Pv i H → H d = some (.frz o (.dK kvs)))
    (hs : ∀ i k v H, kvs[i]? = some (k, v) → Pv i H → g (kV k) (wipe σ vs) H fun σ2 H2 => wipe σ2 vs = wipe σ vs ∧ tt σ2 H2 fun b H3 =>
      if b = true then te σ2 H3 fun y H4 => ∃ acc, H4 D = some (.lst acc) ∧ acc.length < sizeLine ∧ Pv (i + 1) (upd H4 D (.lst (acc ++ [y]))) else Pv (i + 1) H3) (hd : ∀ H, Pv kvs.length H → Qd H) :
    ∃ W : Nat → Nat → Hp → Prop, (∃ m, W 0 m (upd H1 D (.lst []))) ∧ ∀ i m H, W i m H →
      ((Itk d o kvs).stop i H ∧ Qd H) ∨ ((Itk d o kvs).go i H ∧ ∃ Nx : Hp → Prop, (∀ H', Nx H' → ∃ m', m' < m ∧ W (i + 1) m' H') ∧ ∀ x H', (Itk d o kvs).yld i H x H' → g x (wipe σ vs) H' fun σ2 H2 => wipe σ2 vs = wipe σ vs ∧ tt σ2 H2 fun b H3 =>
        if b = true then te σ2 H3 fun y H4 => ∃ acc, H4 D = some (.lst acc) ∧ acc.length < sizeLine ∧ Nx (upd H4 D (.lst (acc ++ [y]))) else Nx H3) := by
  refine ⟨fun i m H => m = kvs.length - i ∧ i ≤ kvs.length ∧ Pv i H, ⟨kvs.length, by simp, Nat.zero_le _, h0⟩, ?_⟩
  rintro i m H ⟨rfl, hi, p⟩
  have q := hl i H p
  by_cases hlt : i < kvs.length
  · refine .inr ⟨⟨q, hlt⟩, Pv (i + 1), fun H' p' => ⟨kvs.length - (i + 1), by omega, rfl, hlt, p'⟩, fun x H' z => ?_⟩
    obtain ⟨e, k, v, hc, rfl⟩ := z
    subst e
    exact hs i k v _ hc p
  · have e : i = kvs.length := by omega
    subst e
    exact .inl ⟨⟨q, Nat.le_refl _⟩, hd H p⟩
section
variable {K : PySem.W.Frag} {σ : L2.St} {H : Hp} {te tl tk : TE}
/-- [e for x in d], d a dict of texts -/
theorem d_lcK {i j : Nat} {d : Addr} {kvs : Kvs} {ss : List Str} (g : Str → PyData) (hσ : σ[i]? = some (some (.ref d))) (hd : H d = some (.dK kvs)) (hk : KeysIn ss kvs) (hz : kvs.length ≤ 50000) (hw : ∀ x, wipe ((wipe σ [j]).set j (some x)) [j] = wipe σ [j]) (him : ∀ s ∈ ss, imm (g s) = true)
    (ht : ∀ s ∈ ss, ∀ H1, EvD K te ((wipe σ [j]).set j (some (.str s))) H1 (g s)) : EvD K (tLockE (tLc (iKeys (tVar i)) (gName j) tYes te [j])) σ H (.list ((strsOf kvs).map g)) := fun H1 a Q q => by
  have hd1 : H1 d = some (.dK kvs) := a _ _ hd
  refine ⟨d, .dK kvs, hd1, True.intro, fun od => ?_⟩
  obtain ⟨G, eG⟩ : ∃ G, G = upd H1 d (.frz od (.dK kvs)) := ⟨_, rfl⟩
  have gd : G d = some (.frz od (.dK kvs)) := by rw [eG, upd_same]
  rw [← eG]
  refine ⟨_, hσ, d, od, rfl, .inl ⟨kvs, gd, fun D hD => ?_⟩⟩
  have hDd : D ≠ d := fun e => by rw [e, gd] at hD; cases hD
  let ds : List PyData := (strsOf kvs).map PyData.str
  let g' : PyData → PyData := fun x => match x with | .str s => g s | _ => .none
  have hl : ds.length = kvs.length := by show ((strsOf kvs).map PyData.str).length = _; unfold strsOf; rw [List.length_map, List.length_map]
  have him' : ∀ x ∈ ds, (fun _ => true) x = true → imm (g' x) = true := fun x hx _ => by
    obtain ⟨s, hs, rfl⟩ := List.mem_map.mp hx
    exact him s (strs_in hk s hs)
  refine lc_keys (Cd K G ds (fun _ => true) g' D) (cd_start hD) (fun i H' p => p.2.1 _ _ gd) (fun i k v H' hi p => ?_) fun H' p => ?_
  · have hm : (k, v) ∈ kvs := List.mem_of_getElem? hi
    have hks := keyS_of hk hm
    have hks1 : kV k = .str (keyS k) := hks.1
    have hds : ds[i]? = some (.str (keyS k)) := by show ((strsOf kvs).map PyData.str)[i]? = _; unfold strsOf; rw [List.getElem?_map, List.getElem?_map, hi]; rfl
    rw [hks1]
    exact ⟨hw _, cd_turn him' p hds (by omega) (fun H3 _ Q q => q H3 (Ex.refl H3)) fun _ => ht _ hks.2 _⟩
  · have z := cd_end2 hl p
    obtain ⟨z1, z2⟩ := z
    have e : (ds.filter fun _ => true).map g' = (strsOf kvs).map g := by
      rw [List.filter_eq_self.mpr fun _ _ => rfl]
      show ((strsOf kvs).map PyData.str).map g' = _
      rw [List.map_map]
      rfl
    rw [e] at z2
    obtain ⟨p1, p2, acc, p3, p4⟩ := p
    have p5 : DpAll K H' acc ((strsOf kvs).map g) := by
      rw [← e]
      rw [List.take_of_length_le (by omega)] at p4
      exact p4
    refine ⟨z1 _ _ gd, q _ _ (fun b o hb => ?_) (.lst (Evl.sq_of ((upd_ne hDd).trans p3)) (dpAll_tu (tu_rd fun b xs h => ?_) (immAll_of fun x hx => ?_) p5))⟩
    · by_cases hbd : b = d
      · rw [hbd, upd_same]
        rw [hbd, hd1] at hb
        exact hb
      · rw [upd_ne hbd]
        exact z1 b o (by rw [eG, upd_ne hbd]; exact hb)
    · have hbd : b ≠ d := fun w => by
        rw [w] at h
        have y := z1 _ _ gd
        rcases h with h | ⟨o, h⟩
        · rw [y] at h; cases h
        · rw [y] at h; cases h
      rcases h with h | ⟨o, h⟩
      · exact .inl ((upd_ne hbd).trans h)
      · exact .inr ⟨o, (upd_ne hbd).trans h⟩
    · obtain ⟨s, hs, rfl⟩ := List.mem_map.mp hx
      exact him s (strs_in hk s hs)
/-- list(d) -/
theorem d_listD {d : Addr} {kvs : Kvs} {ss : List Str} {i : Nat} (hσ : σ[i]? = some (some (.ref d))) (hd : H d = some (.dK kvs)) (hk : KeysIn ss kvs) : EvD K (tCB rListD (tCons (tVar i) tNil)) σ H (.list ((strsOf kvs).map PyData.str)) := fun H1 a Q q =>
  ⟨_, hσ, d, kvs, rfl, a _ _ hd, fun p hp => q _ _ (Ex.new hp) (.lst (Evl.sq_of upd_same) (by rw [keysV hk]; exact dp_strs _))⟩
/-- {e: True for x in t} -/
theorem e_dcT {j : Nat} {ds : List PyData} (g : PyData → Str) (h : EvD K tl σ H (.tuple ds)) (hz : ds.length ≤ 50000) (hw : ∀ x, wipe ((wipe σ [j]).set j (some x)) [j] = wipe σ [j])
    (ht : ∀ d ∈ ds, ∀ x H1, Ex H H1 → Dp K H1 x d → EvD K tk ((wipe σ [j]).set j (some x)) H1 (.str (g d))) (H1 : Hp) (a : Ex H H1) (Q : VK) (q : ∀ p H2, H1 p = none → Ex H1 H2 → H2 p = some (.dK (putsT (ds.map g))) → Q (.ref p) H2) :
    tDc (iTup K tl) (gName j) tYes tk (tC (.bl true)) [j] σ H1 Q := h H1 a _ fun v H2 x hd => by
  cases hd with
  | tup hs hx =>
    refine ⟨_, rfl, ⟨_, hs⟩, fun D hD => dc_tup (fun i H' => Ex H2 H' ∧ H' D = some (.dK (putsT ((ds.take i).map g)))) ⟨Ex.new hD, upd_same⟩ (fun i H' _ p => Evl.ex_t p.1 hs) (fun i y H' hi p => ?_) fun H' p => ?_⟩
    · have hi2 : i < ds.length := by rw [← dpAll_len hx]; exact (List.getElem?_eq_some_iff.mp hi).1
      have hd : ds[i]? = some ds[i] := List.getElem?_eq_getElem hi2
      refine ⟨hw y, ?_⟩
      show tk _ H' fun y H4 => _
      refine ht ds[i] (List.getElem_mem hi2) y H' (a.trans (x.trans p.1)) (dp_ex p.1 (dpAll_get hx hi hd)) H' (Ex.refl H') _ fun u H4 e4 hu => ?_
      cases hu
      have hp4 := e4 _ _ p.2
      have hl : (putsT ((ds.take i).map g)).length ≤ 50000 := by
        have h1 := putsT_len ((ds.take i).map g)
        have h2 := List.length_take_le' i ds
        rw [List.length_map] at h1
        omega
      refine ⟨_, .inr (g ds[i]), rfl, hp4, Evl.sz_lt (by omega), Ex.mut (p.1.trans e4) hD, ?_⟩
      rw [upd_same, List.take_add_one, hd]
      show _ = some (HO.dK (putsT ((ds.take i ++ [ds[i]]).map g)))
      rw [List.map_append, List.map_singleton, putsT_snoc]
      rfl
    · rw [dpAll_len hx, List.take_length] at p
      exact q D H' (Evl.fresh_back x hD) (x.trans p.1) p.2
theorem q_dcT {D : Ends} {tz : TS} {i j : Nat} {vs : List Nat} {ds : List PyData} (g : PyData → Str) (hvs : vs = [j]) (h : EvD K tl σ H (.tuple ds)) (hz : ds.length ≤ 50000) (hw : ∀ x, wipe ((wipe σ [j]).set j (some x)) [j] = wipe σ [j])
    (ht : ∀ d ∈ ds, ∀ x H1, Ex H H1 → Dp K H1 x d → EvD K tk ((wipe σ [j]).set j (some x)) H1 (.str (g d))) (q : ∀ p H2, H p = none → Ex H H2 → H2 p = some (.dK (putsT (ds.map g))) → tz D (σ.set i (some (.ref p))) H2) :
    tSeq (tAsg (tDc (iTup K tl) (gName j) tYes tk (tC (.bl true)) vs) (gName i)) tz D σ H := by
  subst hvs
  exact e_dcT g h hz hw ht H (Ex.refl H) (fun x H1 => gName i x σ H1 fun σ2 H2 => tz D σ2 H2) q
end
end AsKit

set_option maxHeartbeats 4000000
set_option autoImplicit false
namespace AsKit
open PySem PySem.Spec PyProof.Rows L2 AsSort
open Evl (Ex Ev EvT EvA)
section
variable {K : PySem.W.Frag} {σ : L2.St} {H : Hp} {te : TE} {ds : List PyData}
/-- sorted(xs, key=f) -/
theorem d_sortL {f : Addr} {pre : List PyData → Prop} {g : List PyData → PyData} (h : EvD K te σ H (.list ds)) (hp : ∀ d ∈ ds, pre [d]) (ha : PySem.W.AllAlike (ds.map fun d => g [d])) (hs : PySem.W.Sortable (ds.map fun d => g [d])) (hi : immAll (ds.map fun d => g [d]) = true) (hd : ∀ d ∈ ds, (g [d]).depth ≤ 50) :
    EvD K (tCKw (rSortKey K f pre g) (tCons te tNil) (tCons (tC (.ref f)) tNil)) σ H (.list (sortD (fun d => g [d]) ds)) := fun H1 a Q q =>
  h H1 a _ fun v H2 x hv => by
    cases hv with
    | lst hq hx => exact ⟨_, _, ds, rfl, rfl, .inl hq, hx, hp, ha, hs, hi, hd, fun p ys G np e hG hys => q _ G (x.trans e) (.lst (Evl.sq_of hG) hys)⟩
end
end AsKit
namespace K24
open PySem PySem.Spec PyProof.Rows L2 AsSort AsKit
open Evl (Ex Ev EvT EvA)
section
variable {P : Program} {w : World} {K : PySem.W.Frag} {mg : Str → Option Value} {base : Heap}
abbrev nCopies : List Str := ["letters", "kinds", "text", "behind", "deed", "copy"]
/-- the texts behind all deeds -/
def behinds (ps : List (Str × Str)) (z : Str) : List Str := (deedsL ps z).map fun d => bhS z (dOf d).1 (dOf d).2
def copiesL (ps : List (Str × Str)) (z : Str) : List PyData := sortD (fun d => one ordT [d]) ((strsOf (putsT (behinds ps z))).map PyData.str)
def cp3 : PyData → PyData → PyData → PyData
  | _, k, .str z => .tuple (copiesL (pairsOf k) z)
  | _, _, _ => .none
theorem deeds_mem {ps : List (Str × Str)} {z : Str} {d : PyData} (h : d ∈ deedsL ps z) : ∃ p kk, d = dD p kk ∧ kk ∈ ps ∧ p ≤ z.length := by
  obtain ⟨p, h1, h2⟩ := List.mem_flatMap.mp h
  obtain ⟨k, hk, rfl⟩ := List.mem_map.mp h2
  exact ⟨p, k, rfl, sortO_mem.mp (List.mem_filter.mp hk).1, Nat.lt_succ_iff.mp (List.mem_range.mp h1)⟩
theorem deedsL_len {ps : List (Str × Str)} {z : Str} (h1 : z.length ≤ 400) (h2 : ps.length ≤ 60) : (deedsL ps z).length ≤ 30000 := by
  have l1 := hitsTo_len (sortO ps) z (z.length + 1)
  have l2 := sortO_len ps
  have l3 : (z.length + 1) * (sortO ps).length ≤ 401 * 60 := Nat.mul_le_mul (by omega) (by omega)
  unfold deedsL
  omega
/-- sorted texts: what is asked -/
theorem ordT_ok (ss : List Str) (h : ∀ s ∈ ss, s.length ≤ 40000) : (∀ d ∈ ss.map PyData.str, ∃ z, [d] = [PyData.str z] ∧ z.length ≤ 40000) ∧ PySem.W.AllAlike ((ss.map PyData.str).map fun d => one ordT [d]) ∧ PySem.W.Sortable ((ss.map PyData.str).map fun d => one ordT [d]) ∧
    immAll ((ss.map PyData.str).map fun d => one ordT [d]) = true ∧ ∀ d ∈ ss.map PyData.str, (one ordT [d]).depth ≤ 50 := by
  have hm : ∀ d ∈ (ss.map PyData.str).map fun d => one ordT [d], ∃ s, d = oT s := fun d hd => by
    obtain ⟨x, hx, rfl⟩ := List.mem_map.mp hd
    obtain ⟨s, hs, rfl⟩ := List.mem_map.mp hx
    exact ⟨s, rfl⟩
  refine ⟨fun d hd => ?_, fun d hd d' hd' => ?_, .inl fun d hd => ?_, immAll_of fun d hd => ?_, fun d hd => ?_⟩
  · obtain ⟨s, hs, rfl⟩ := List.mem_map.mp hd
    exact ⟨s, rfl, h s hs⟩
  · obtain ⟨x, rfl⟩ := hm d hd
    obtain ⟨y, rfl⟩ := hm d' hd'
    exact oT_alike x y
  · obtain ⟨x, rfl⟩ := hm d hd
    exact ⟨_, _, rfl⟩
  · obtain ⟨x, rfl⟩ := hm d hd
    rfl
  · obtain ⟨s, hs, rfl⟩ := List.mem_map.mp hd
    show (oT s).depth ≤ 50
    simp [oT, PyData.depth, PyData.depthAll]
abbrev spCopies (K : PySem.W.Frag) : Sp := spP K (fun ds => ∃ l k t, ds = [l, k, t] ∧ Okay l k t ∧ ∃ ps z, k = .tuple (ps.map kD) ∧ t = .str z ∧ ∀ s ∈ behinds ps z, s.length ≤ 40) (three cp3)
end
end K24

set_option maxHeartbeats 4000000
set_option autoImplicit false
namespace K24
open PySem PySem.Spec PyProof.Rows L2 AsSort AsKit
open Evl (Ex Ev EvT EvA)
abbrev sTaken : Stmt := top 36
abbrev sPick : Stmt := top 37
abbrev sAlike : Stmt := top 38
abbrev sText : Stmt := top 39
abbrev sDeedsL : Stmt := top 41
abbrev sBehind : Stmt := top 42
abbrev sLaw : Stmt := top 45
section
variable {P : Program} {w : World} {K : PySem.W.Frag} {mg : Str → Option Value} {base : Heap}
/-- all but r is as it was -/
def Bt (r : Addr) (H H' : Hp) : Prop := ∀ x o, x ≠ r → H x = some o → H' x = some o
theorem Bt.refl (r : Addr) (H : Hp) : Bt r H H := fun _ _ _ h => h
theorem Bt.trans {r : Addr} {H H1 H2 : Hp} (a : Bt r H H1) (b : Bt r H1 H2) : Bt r H H2 := fun x o n h => b x o n (a x o n h)
theorem bt_ex {r : Addr} {H H1 : Hp} (e : Ex H H1) : Bt r H H1 := fun x o _ h => e x o h
theorem bt_upd {r : Addr} {H : Hp} {o : HO} : Bt r H (upd H r o) := fun x u n h => (upd_ne n).trans h
/-- the row of the law: the script, how far, the drawn number, what is left of a great one -/
def SqS (K : PySem.W.Frag) (H : Hp) (r scr : Addr) (xs : List V) : Prop := ∀ H', Bt r H H' → SqL K H' scr xs
def RowS (K : PySem.W.Frag) (H : Hp) (r : Addr) (scr : Addr) (ns : List Int) (a b c : Int) : Prop := H r = some (.lst [.ref scr, .int a, .int b, .int c]) ∧ True ∧ SqS K H r scr (ns.map V.int) ∧ 0 ≤ a ∧ 0 ≤ b ∧ b < 2147483647
def Row (K : PySem.W.Frag) (S : Addr × List Int) (H : Hp) (r : Addr) : Prop := ∃ a b c, RowS K H r S.1 S.2 a b c
theorem seq_bt {r x : Addr} {H H1 : Hp} {xs : List V} (h : Bt r H H1) (n : x ≠ r) (s : SqL K H x xs) : SqL K H1 x xs := by
  rcases s with (s | ⟨o, s⟩) | s
  · exact .inl (.inl (h x _ n s))
  · exact .inl (.inr ⟨o, h x _ n s⟩)
  · exact .inr s
theorem RowS.ex {H H1 : Hp} {r scr : Addr} {ns : List Int} {a b c : Int} (e : Ex H H1) (h : RowS K H r scr ns a b c) : RowS K H1 r scr ns a b c := ⟨e _ _ h.1, h.2.1, fun H' b => h.2.2.1 H' ((bt_ex e).trans b), h.2.2.2⟩
theorem RowS.put {H : Hp} {r scr : Addr} {ns : List Int} {a b c a' b' c' : Int} (h : RowS K H r scr ns a b c) (h1 : 0 ≤ a') (h2 : 0 ≤ b') (h3 : b' < 2147483647) : RowS K (upd H r (.lst [.ref scr, .int a', .int b', .int c'])) r scr ns a' b' c' :=
  ⟨upd_same, h.2.1, fun H' b => h.2.2.1 H' (bt_upd.trans b), h1, h2, h3⟩
theorem RowS.dp {H : Hp} {r scr : Addr} {ns : List Int} {a b c : Int} (h : RowS K H r scr ns a b c) : Dp K H (.ref r) (.list [.list (ns.map PyData.int), .int a, .int b, .int c]) :=
  .lst (Evl.sq_of h.1) (.cons (.lst (h.2.2.1 H (Bt.refl r H)) (dp_ints ns)) (.cons (.int a) (.cons (.int b) (.cons (.int c) .nil))))
theorem Row.ex {S : Addr × List Int} {H H1 : Hp} {r : Addr} (e : Ex H H1) (h : Row K S H r) : Row K S H1 r := let ⟨a, b, c, z⟩ := h; ⟨a, b, c, z.ex e⟩
theorem row_new {S : Addr × List Int} {H : Hp} {r p : Addr} {o : HO} (h : Row K S H r) (np : H p = none) : p ≠ r ∧ Row K S (upd H p o) r ∧ Bt r H (upd H p o) := by
  obtain ⟨a, b, c, z⟩ := h
  have n : p ≠ r := fun e => by rw [e, z.1] at np; cases np
  exact ⟨n, ⟨a, b, c, z.ex (Ex.new np)⟩, bt_ex (Ex.new np)⟩
/-- an object that was not there ahead may change -/
theorem row_keep {S : Addr × List Int} {H1 H2 : Hp} {r D : Addr} {o : HO} (h1 : Row K S H1 r) (hD : H1 D = none) (b : Bt r H1 H2) (h2 : Row K S H2 r) : Row K S (upd H2 D o) r ∧ Bt r H1 (upd H2 D o) := by
  obtain ⟨x, y, z, k1⟩ := h1
  obtain ⟨a, b', c, k2⟩ := h2
  have n : r ≠ D := fun e => by rw [← e, k1.1] at hD; cases hD
  have hb : Bt r H1 (upd H2 D o) := fun w u nw hw => by
    rw [upd_ne fun e => by rw [e, hD] at hw; cases hw]
    exact b w u nw hw
  exact ⟨⟨a, b', c, (upd_ne n).trans k2.1, k2.2.1, fun H' b' => k1.2.2.1 H' (hb.trans b'), k2.2.2.2⟩, hb⟩
abbrev nTaken : List Str := ["row", "many", "found", "cell"]
theorem sc_taken : FnScope nTaken ["row", "many"] (defScope sTaken) := ⟨rfl, rfl, rfl, by decide +kernel, rfl, by decide +kernel, by decide +kernel⟩
def spTaken (K : PySem.W.Frag) : Sp := fun vs H Q _ => ∃ (r : Addr) (S : Addr × List Int) (many : Int), vs = [.ref r, .int many] ∧ Row K S H r ∧ 0 < many ∧ many < 1000000 ∧ ∀ (k : Nat) H', (k : Int) < many → Bt r H H' → Row K S H' r → Q (.int (k : Int)) H'
theorem c_taken (D : Df K mg "_law_taken" sTaken) (hb : Bl mg) : Cl P w K mg base 1 "_law_taken" (spTaken K) [] := by
  refine cl_of D sc_taken (fun vs H Q E ⟨r, S, m, h, _⟩ => by rw [h]; rfl) (fun _ _ _ _ _ _ us hl => match us, hl with | [_, _], _ => rfl) fun f cdv A outer s H vs Q E hr h => ?_
  obtain ⟨r, ⟨scr, ns⟩, many, rfl, ⟨a, b, c, hR⟩, hm, hm2, q⟩ := h
  refine ⟨_, pss_cons (ps_if (pt_cmpR op_gt (pe_ix ix_list (pv 0) pe_int (fun _ _ => rfl)) pe_int (nomark _))
      (pss_cons (ps_set (i := 2) sc_taken.nd rfl (.inl rfl) (pe_op op_mod (pe_int1 hb (pe_ix ix_list (pv 0) pe_int (fun _ _ => rfl))) (pv 1)))
      (pss_cons (ps_asg (pe_op op_fdiv (pe_ix ix_list (pv 0) pe_int (fun _ _ => rfl)) (pv 1)) (pg_sub (pv 0) pe_int set_list)) (pss_one (ps_ret (pv 2))))) pss_nil)
    (pss_cons (ps_asg (pe_op op_add (pe_ix ix_list (pv 0) pe_int (fun _ _ => rfl)) pe_int) (pg_sub (pv 0) pe_int set_list))
    (pss_cons (ps_if (pt_cmpR op_gt (pe_ix ix_list (pv 0) pe_int (fun _ _ => rfl)) (pe_lenQ hb (pe_ix ix_list (pv 0) pe_int (fun _ _ => rfl))) (nomark _))
      (pss_cons (ps_asg (pe_op op_mod (pe_int1 hb (pe_op op_add (pe_op op_mul (pe_ix ix_list (pv 0) pe_int (fun _ _ => rfl)) pe_int) pe_int)) pe_int) (pg_sub (pv 0) pe_int set_list))
      (pss_one (ps_ret (pe_op op_mod (pe_int1 hb (pe_op op_fdiv (pe_ix ix_list (pv 0) pe_int (fun _ _ => rfl)) pe_int)) (pv 1))))) pss_nil)
    (pss_cons (ps_set (i := 3) sc_taken.nd rfl (.inl rfl) (pe_ix ix_list (pe_ix ix_list (pv 0) pe_int (fun _ _ => rfl)) (pe_op op_sub (pe_ix ix_list (pv 0) pe_int (fun _ _ => rfl)) pe_int) (fun _ _ => rfl)))
    (pss_cons (ps_asg (pe_op op_mod (pe_int1 hb (pe_op op_add (pe_op op_add (pe_op op_mul (pe_ix ix_list (pv 0) pe_int (fun _ _ => rfl)) pe_int) (pv 3)) pe_int)) pe_int) (pg_sub (pv 0) pe_int set_list))
    (pss_cons (ps_if (pt_cmpR op_ge (pv 3) (pe_op op_pow pe_int pe_int) (nomark _)) (pss_one (ps_asg (pe_op op_fdiv (pv 3) (pv 1)) (pg_sub (pv 0) pe_int set_list))) pss_nil)
    (pss_one (ps_ret (pe_op op_mod (pe_int1 hb (pv 3)) (pv 1))))))))), ?_⟩
  -- what the slots hold
  have a0 : ∀ {x2 x3 : Option V} {G : Hp} {a b c : Int}, RowS K G r scr ns a b c → At K [some (.ref r), some (.int many), x2, x3] G 0 (.list [.list (ns.map PyData.int), .int a, .int b, .int c]) := fun h => ⟨_, rfl, h.dp⟩
  have a1 : ∀ {x2 x3 : Option V} {G : Hp}, At K [some (.ref r), some (.int many), x2, x3] G 1 (.int many) := ⟨_, rfl, .int _⟩
  have ix : ∀ {x2 x3 : Option V} {G : Hp} {a b c : Int} (j : Nat) (d : PyData), RowS K G r scr ns a b c → [PyData.list (ns.map PyData.int), .int a, .int b, .int c][j]? = some d → EvD K (tOp (rIxL K) (tVar 0) (tC (.int (j : Int)))) [some (.ref r), some (.int many), x2, x3] G d := fun j d h e => d_ixL (d_var (a0 h)) d_int (atI_nat e)
  have fin : ∀ (i : Int) (G : Hp), Bt r H G → Row K (scr, ns) G r → Q (.int (i % many)) G := fun i G h1 h2 => by
    have z1 := Int.emod_nonneg i (show many ≠ 0 by omega)
    have z2 := Int.emod_lt_of_pos i hm
    have z := q (i % many).toNat G (by omega) h1 h2
    rw [show (((i % many).toNat : Nat) : Int) = i % many by omega] at z
    exact z
  refine Evl.q_when (b := decide ((0 : Int) < c)) (t_ofD (d_cmpI (g := fun i j => decide (j < i)) (ix 3 _ hR rfl) d_int)) (fun hc H1 e1 => ?_) fun hc H1 e1 => ?_
  · refine AsKit.q_asg (K := K) (d_opC (C := fun _ j => 0 < j) (g := fun i j => i % j) (d_int1 (ix 3 _ (hR.ex e1) rfl)) (d_var a1) hm) fun v2 H2 e2 hv => ?_
    have hR2 := (hR.ex e1).ex e2
    refine q_setI (K := K) (j := 3) rfl hR2.1 (d_opC (C := CDiv) (g := fun i j => i / j) (ix 3 _ hR2 rfl) (d_var a1) ⟨hm, by omega⟩) d_int (by show 3 < 4; decide) fun H3 e3 => ?_
    cases hv
    have hR3 := hR2.ex e3
    refine AsKit.s_ret (K := K) (d_var ⟨_, rfl, .int _⟩) fun u H4 e4 hu => ?_
    cases hu
    exact fin c H4 ((bt_ex (e1.trans (e2.trans e3))).trans (bt_upd.trans (bt_ex e4))) ⟨a, b, _, (hR3.put (c' := c / many) hR.2.2.2.1 hR.2.2.2.2.1 hR.2.2.2.2.2).ex e4⟩
  · have hR1 := hR.ex e1
    refine q_setI (K := K) (j := 1) rfl hR1.1 (d_arI (g := fun i j => i + j) (ix 1 _ hR1 rfl) d_int) d_int (by show 1 < 4; decide) fun H2 e2 => ?_
    have hR2 := (hR1.ex e2).put (a' := a + 1) (b' := b) (c' := c) (by have := hR.2.2.2.1; omega) hR.2.2.2.2.1 hR.2.2.2.2.2
    have b2 : Bt r H (upd H2 r (.lst [.ref scr, .int (a + 1), .int b, .int c])) := (bt_ex (e1.trans e2)).trans bt_upd
    have hb1 := hR.2.2.2.2.1
    have hb2 := hR.2.2.2.2.2
    have ha1 := hR.2.2.2.1
    obtain ⟨G, eG⟩ : ∃ G, G = upd H2 r (.lst [.ref scr, .int (a + 1), .int b, .int c]) := ⟨_, rfl⟩
    show tSeq (tIfS _ _ tNext) _ _ [some (.ref r), some (.int many), none, none] (upd H2 r (.lst [.ref scr, .int (a + 1), .int b, .int c]))
    rw [← eG] at hR2 b2 ⊢
    have len : ∀ {x2 x3 : Option V} {G : Hp} {a b c : Int}, RowS K G r scr ns a b c → EvD K (tCB (rLenQ K) (tCons (tOp (rIxL K) (tVar 0) (tC (.int 0))) tNil)) [some (.ref r), some (.int many), x2, x3] G (.int (ns.length : Int)) := fun h => d_eqTo (d_lenL (ix 0 _ h rfl)) (by rw [List.length_map])
    refine Evl.q_when (b := decide ((ns.length : Int) < a + 1)) (t_ofD (d_cmpI (g := fun i j => decide (j < i)) (ix 1 _ hR2 rfl) (len hR2))) (fun hc H3 e3 => ?_) fun hc H3 e3 => ?_
    · have hR3 := hR2.ex e3
      refine q_setI (K := K) (j := 2) rfl hR3.1 (d_opC (C := fun _ j => 0 < j) (g := fun i j => i % j) (d_int1 (d_arI (g := fun i j => i + j) (d_opC (C := CMul) (g := fun i j => i * j) (ix 2 _ hR3 rfl) d_int (.inl ⟨by omega, by omega⟩)) d_int)) d_int (by decide)) d_int (by show 2 < 4; decide) fun H4 e4 => ?_
      have hR4 := (hR3.ex e4).put (a' := a + 1) (b' := (b * 48271 + 11) % 2147483647) (c' := c) (by omega) (Int.emod_nonneg _ (by decide)) (Int.emod_lt_of_pos _ (by decide))
      refine AsKit.s_ret (K := K) (d_opC (C := fun _ j => 0 < j) (g := fun i j => i % j) (d_int1 (d_opC (C := CDiv) (g := fun i j => i / j) (ix 2 _ hR4 rfl) d_int ⟨by decide, by decide⟩)) (d_var a1) hm) fun u H5 e5 hu => ?_
      cases hu
      exact fin _ H5 (b2.trans ((bt_ex (e3.trans e4)).trans (bt_upd.trans (bt_ex e5)))) ⟨_, _, _, hR4.ex e5⟩
    · have hlt : a.toNat < ns.length := by have := of_decide_eq_false hc; omega
      have hR3 := hR2.ex e3
      have hcell : ns[a.toNat]? = some ns[a.toNat] := List.getElem?_eq_getElem hlt
      refine AsKit.q_asg (K := K) (d := .int ns[a.toNat]) (d_ixL (ds := ns.map PyData.int) (i := (a + 1) - 1) (ix 0 _ hR3 rfl) (d_arI (g := fun i j => i - j) (ix 1 _ hR3 rfl) d_int) ?_) fun v3 H4 e4 hv => ?_
      · rw [show a + 1 - 1 = ((a.toNat : Nat) : Int) by omega]
        exact atI_nat (by rw [List.getElem?_map, hcell]; rfl)
      cases hv
      have hR4 := hR3.ex e4
      have a3 : ∀ {G : Hp}, At K [some (.ref r), some (.int many), none, some (.int ns[a.toNat])] G 3 (.int ns[a.toNat]) := ⟨_, rfl, .int _⟩
      refine q_setI (K := K) (j := 2) rfl hR4.1 (d_opC (C := fun _ j => 0 < j) (g := fun i j => i % j) (d_int1 (d_arI (g := fun i j => i + j) (d_arI (g := fun i j => i + j) (d_opC (C := CMul) (g := fun i j => i * j) (ix 2 _ hR4 rfl) d_int (.inl ⟨by omega, by omega⟩)) (d_var a3)) d_int)) d_int (by decide)) d_int (by show 2 < 4; decide) fun H5 e5 => ?_
      have hR5 := (hR4.ex e5).put (a' := a + 1) (b' := (b * 48271 + ns[a.toNat] + 11) % 2147483647) (c' := c) (by omega) (Int.emod_nonneg _ (by decide)) (Int.emod_lt_of_pos _ (by decide))
      have b5 : Bt r H (upd H5 r (.lst [.ref scr, .int (a + 1), .int ((b * 48271 + ns[a.toNat] + 11) % 2147483647), .int c])) := b2.trans ((bt_ex (e3.trans (e4.trans e5))).trans bt_upd)
      have last : ∀ G, Bt r H G → Row K (scr, ns) G r → tRet (tOp (rI (fun _ j => 0 < j) fun i j => .int (i % j)) (tCB rInt1 (tCons (tVar 3) tNil)) (tVar 1)) { nx := fun _ H' => Q .non H', rt := Q } [some (.ref r), some (.int many), none, some (.int ns[a.toNat])] G := fun G h1 ⟨x, y, z, h2⟩ =>
        AsKit.s_ret (K := K) (d_opC (C := fun _ j => 0 < j) (g := fun i j => i % j) (d_int1 (d_var a3)) (d_var a1) hm) fun u H6 e6 hu => by
          cases hu
          exact fin _ H6 (h1.trans (bt_ex e6)) ⟨x, y, z, h2.ex e6⟩
      refine Evl.q_when (b := decide ((10 : Int) ^ (18 : Int).toNat ≤ ns[a.toNat])) (t_ofD (K := K) (d_cmpI (g := fun i j => decide (j ≤ i)) (d_var a3) (d_opC (C := CPow) (g := fun i j => i ^ j.toNat) d_int d_int ?_))) (fun hc H6 e6 => ?_) fun hc H6 e6 => ?_
      · exact ⟨by decide, by decide, by decide⟩
      · have hR6 := hR5.ex e6
        refine s_setI (K := K) (j := 3) rfl hR6.1 (d_opC (C := CDiv) (g := fun i j => i / j) (d_var a3) (d_var a1) ⟨hm, by omega⟩) d_int (by show 3 < 4; decide) fun H7 e7 => ?_
        exact last _ (b5.trans ((bt_ex (e6.trans e7)).trans bt_upd)) ⟨_, _, _, (hR6.ex e7).put (a' := a + 1) (b' := (b * 48271 + ns[a.toNat] + 11) % 2147483647) (c' := ns[a.toNat] / many) (by omega) (Int.emod_nonneg _ (by decide)) (Int.emod_lt_of_pos _ (by decide))⟩
      · exact last H6 (b5.trans (bt_ex e6)) ⟨_, _, _, hR5.ex e6⟩
end
end K24

set_option maxHeartbeats 4000000
set_option autoImplicit false
namespace AsKit
open PySem PySem.Spec PyProof.Rows L2 AsSort
open Evl (Ex Ev EvT EvA)
/-- the text of these signs -/
def ones (cs : List Nat) : List Str := cs.map fun c => (⟨#[c]⟩ : Str)
theorem joinL_ones : ∀ cs : List Nat, TL.joinL [] (cs.map fun c => [c]) = cs
  | [] => rfl
  | [c] => rfl
  | c :: d :: r => by
    show [c] ++ ([] ++ TL.joinL [] ([d] :: r.map fun c => [c])) = _
    rw [show ([d] :: r.map fun c => [c]) = (d :: r).map fun c => [c] from rfl, joinL_ones (d :: r)]
    rfl
theorem joined1 (cs : List Nat) : (Txt.join "" (ones cs)).cps.toList = cs := by
  show TL.tl (Txt.join "" (ones cs)) = cs
  unfold Txt.join
  rw [StrLaws.glued_eq_join, TL.tl_join]
  have e1 : TL.tl ("" : Str) = [] := by decide +kernel
  have e2 : (ones cs).map TL.tl = cs.map fun c => [c] := by
    unfold ones
    rw [List.map_map]
    rfl
  rw [e1, e2]
  exact joinL_ones cs
section
variable {X : Cx}
/-- list(s), s a text -/
def rListS1 : List V → Hp → VK → Prop := fun xs H Q => ∃ z, xs = [.str z] ∧ z.length ≤ sizeLine ∧ ∀ p, H p = none → Q (.ref p) (upd H p (.lst (z.cps.toList.map fun c => V.str ⟨#[c]⟩)))
theorem call_listS1 (hc : X.calm = true) : CallR X (.type "list") rListS1 := by
  intro pins s σ H xs us Q I r h
  obtain ⟨z, rfl, hz, q⟩ := h
  obtain ⟨u, rfl, rx⟩ := vals1 r
  obtain ⟨t, rfl⟩ := rx
  have hl : z.cps.toList.length = z.cps.size := Array.length_toList
  refine call_list_str (I.ok.hd hc) z t (hn := hz) fun h' tk acc c hk hS hacc => ?_
  refine ⟨.ref s.heap.objs.size, _, I.laid (t' := tk) hk (Nat.le_refl _) (show ObjOk X.prog X.w _ h' _ (.lst (z.cps.toList.map fun c => V.str ⟨#[c]⟩)) from ⟨by rw [List.length_map, hl]; exact hz, acc.toList, c, ?_, ?_⟩), rfl, q _ (I.hok.fresh (Nat.le_refl _))⟩
  · have el : acc.toList.length = acc.size := Array.length_toList
    refine vals_of_at (by rw [List.length_map, el, hacc.1, hl]) fun j x w h1 h2 => ?_
    obtain ⟨d, u, hd, rfl⟩ := hacc.2 j w (by rw [← Array.getElem?_toList]; exact h2)
    rw [List.getElem?_map, Array.getElem?_toList, hd] at h1
    cases h1
    exact ⟨u, rfl⟩
  · rw [Array.toArray_toList]
    exact hS
end
end AsKit
namespace K24
open PySem PySem.Spec PyProof.Rows L2 AsSort AsKit
open Evl (Ex Ev EvT EvA)
section
variable {P : Program} {w : World} {K : PySem.W.Frag} {mg : Str → Option Value} {base : Heap}
theorem sc_pick : FnScope ["row", "things"] ["row", "things"] (defScope sPick) := ⟨rfl, rfl, rfl, by decide +kernel, rfl, by decide +kernel, by decide +kernel⟩
def spPick (K : PySem.W.Frag) : Sp := fun vs H Q _ => ∃ (r : Addr) (S : Addr × List Int) (t : Addr) (xs : List V), vs = [.ref r, .ref t] ∧ Row K S H r ∧ t ≠ r ∧ SqL K H t xs ∧ xs ≠ [] ∧ xs.length < 1000000 ∧ ∀ x H', x ∈ xs → Bt r H H' → Row K S H' r → Q x H'
theorem c_pick (D : Df K mg "_law_pick" sPick) (hb : Bl mg) (C1 : Cl P w K mg base 1 "_law_taken" (spTaken K) []) : Cl P w K mg base 2 "_law_pick" (spPick K) [] := by
  refine cl_of D sc_pick (fun vs H Q E ⟨r, S, t, xs, h, _⟩ => by rw [h]; rfl) (fun _ _ _ _ _ _ us hl => match us, hl with | [_, _], _ => rfl) fun f cdv A outer s H vs Q E hr h => ?_
  obtain ⟨r, S, t, xs, rfl, hR, ht, hs, hn, hz, q⟩ := h
  refine ⟨_, pss_one (ps_ret (pe_ix ix_list (pv 1) (C8.pe_c C1 hr (by decide) (by rfl) (pa_cons (pv 0) (pa_cons (pe_lenQ hb (pv 1)) pa_nil))) (fun _ _ => rfl))), ?_⟩
  have hp : 0 < xs.length := List.length_pos_iff.mpr hn
  refine ⟨.ref t, rfl, .ref r, rfl, .ref t, rfl, t, xs, rfl, .inl hs, r, S, (xs.length : Int), rfl, hR, by omega, by omega, fun k H' hk hb2 hR2 => ?_⟩
  have hk2 : k < xs.length := by omega
  exact ⟨t, xs, (k : Int), xs[k], rfl, rfl, seq_bt hb2 ht hs, atI_nat (List.getElem?_eq_getElem hk2), q _ H' (List.getElem_mem hk2) hb2 hR2⟩
def seven : List Str := ["a", "ab", "ab", "ab", "bz", "abc", "cdx"]
def spLetters (K : PySem.W.Frag) : Sp := fun vs H Q _ => ∃ (r : Addr) (S : Addr × List Int), vs = [.ref r] ∧ Row K S H r ∧ ∀ z H', z ∈ seven → Bt r H H' → Row K S H' r → Q (.str z) H'
abbrev nText : List Str := ["row", "letters", "most", "turn"]
theorem sc_text : FnScope nText ["row", "letters", "most"] (defScope sText) := ⟨rfl, rfl, rfl, by decide +kernel, rfl, by decide +kernel, by decide +kernel⟩
def spText (K : PySem.W.Frag) : Sp := fun vs H Q _ => ∃ (r : Addr) (S : Addr × List Int) (y : Str) (m : Nat), vs = [.ref r, .str y, .int (m : Int)] ∧ Row K S H r ∧ 0 < y.length ∧ y.length ≤ 1000 ∧ m ≤ 1000 ∧ ∀ (z : Str) H', z.length ≤ m → allIn y z = true → Bt r H H' → Row K S H' r → Q (.str z) H'
theorem c_text (D : Df K mg "_law_text" sText) (hb : Bl mg) (C1 : Cl P w K mg base 1 "_law_taken" (spTaken K) []) (C2 : Cl P w K mg base 2 "_law_pick" (spPick K) []) : Cl P w K mg base 3 "_law_text" (spText K) [] := by
  refine cl_of D sc_text (fun vs H Q E ⟨r, S, y, m, h, _⟩ => by rw [h]; rfl) (fun _ _ _ _ _ _ us hl => match us, hl with | [_, _, _], _ => rfl) fun f cdv A outer s H vs Q E hr h => ?_
  obtain ⟨r, S, y, m, rfl, hR, hy, hy2, hm, q⟩ := h
  refine ⟨_, pss_one (ps_ret (pe_join pe_str (pe_lcn 3 sc_text.nd (pi_range1 (by rfl) (hb _ (by decide +kernel)) (pa_cons (C8.pe_c C1 hr (by decide) (by rfl) (pa_cons (pv 0) (pa_cons (pe_op op_add (pv 2) pe_int) pa_nil))) pa_nil)) (fun _ _ _ _ _ => pts_nil)
    (fun _ _ _ _ _ => C8.pe_c C2 hr (by decide) (by rfl) (pa_cons (pv 0) (pa_cons (pe_callTy (call_listS1 rfl) (by rfl) (hb _ (by decide +kernel)) (by decide +kernel) (pa_cons (pv 1) pa_nil)) pa_nil))) (fun _ _ _ _ _ => pg_name sc_text.nd rfl (.inl rfl)) (blkOk_by (N := nText) (sc := defScope sText) (own := [("turn", 3)]) (by decide +kernel)) rfl))), ?_⟩
  refine ⟨⟨_, rfl⟩, .ref r, rfl, .int (m : Int), rfl, _, _, rfl, rfl, r, S, (m : Int) + 1, rfl, hR, by omega, by omega, fun k H1 hk hb1 hR1 => ?_⟩
  refine ⟨(k : Int), rfl, by omega, by omega, fun D hD => ?_⟩
  have nD := row_new (o := .lst []) hR1 hD
  have hyl : y.cps.toList.length = y.length := Array.length_toList
  refine lc_range (lo := 0) (n := ((k : Int)).toNat) (fun i H' => Bt r H1 H' ∧ Row K S H' r ∧ ∃ cs : List Nat, H' D = some (.lst ((ones cs).map V.str)) ∧ cs.length = i ∧ ∀ c ∈ cs, c ∈ y.cps.toList) ⟨nD.2.2, nD.2.1, [], upd_same, rfl, fun _ h => nomatch h⟩ (fun i H' hi p => ?_) fun H' p => ?_
  · obtain ⟨p1, p2, cs, p3, p4, p5⟩ := p
    refine ⟨rfl, ?_⟩
    refine ⟨.ref r, rfl, .str y, rfl, y, rfl, Evl.sz_of (by omega), fun t nt => ?_⟩
    have nT := row_new (o := .lst (y.cps.toList.map fun c => V.str ⟨#[c]⟩)) p2 nt
    refine ⟨r, S, t, _, rfl, nT.2.1, nT.1, Evl.sq_of upd_same, ?_, by rw [List.length_map]; omega, fun x H2 hx hb2 hR2 => ?_⟩
    · intro e
      have := congrArg List.length e
      rw [List.length_map, List.length_nil] at this
      omega
    · obtain ⟨c, hc, rfl⟩ := List.mem_map.mp hx
      have tD : D ≠ t := fun e => by rw [e, nt] at p3; cases p3
      have h3 : H2 D = some (.lst ((ones cs).map V.str)) := hb2 D _ nD.1 ((upd_ne tD).trans p3)
      have bb : Bt r H1 H2 := p1.trans (nT.2.2.trans hb2)
      have kk := row_keep (o := .lst ((ones cs).map V.str ++ [.str ⟨#[c]⟩])) hR1 hD bb hR2
      refine ⟨_, h3, Evl.sz_lt (by unfold ones; rw [List.length_map, List.length_map, p4]; omega), kk.2, kk.1, cs ++ [c], ?_, by rw [List.length_append, p4]; rfl, fun d hd => ?_⟩
      · rw [upd_same]
        unfold ones
        rw [List.map_append, List.map_append]
        rfl
      · rcases List.mem_append.mp hd with hd | hd
        · exact p5 d hd
        · rw [List.mem_singleton.mp hd]
          exact hc
  · obtain ⟨p1, p2, cs, p3, p4, p5⟩ := p
    have hj := joined1 cs
    have hl : (Txt.join "" (ones cs)).length = cs.length := by
      have e := congrArg List.length hj
      rw [Array.length_toList] at e
      exact e
    refine ⟨_, D, ones cs, rfl, rfl, .inl (Evl.sq_of p3), ?_, q _ H' (by rw [hl]; omega) ?_ (hb1.trans p1) p2⟩
    · have e1 : (ones cs).map (·.length) = cs.map fun _ => 1 := by
        unfold ones
        rw [List.map_map]
        rfl
      have e2 : ∀ l : List Nat, (l.map fun _ => 1).sum = l.length := fun l => by
        induction l with
        | nil => rfl
        | cons x l ih => rw [List.map_cons, List.sum_cons, ih, List.length_cons]; omega
      rw [e1, e2]
      have e3 : (ones cs).length = cs.length := List.length_map ..
      have e4 : (("" : Str)).length = 0 := by decide +kernel
      rw [e3, e4]
      omega
    · unfold allIn
      rw [hj]
      exact List.all_eq_true.mpr fun c hc => decide_eq_true (p5 c hc)
end
end K24

set_option maxHeartbeats 4000000
set_option autoImplicit false
namespace K24
open PySem PySem.Spec PyProof.Rows L2 AsSort AsKit
open Evl (Ex Ev EvT EvA)
section
variable {P : Program} {w : World} {K : PySem.W.Frag} {mg : Str → Option Value} {base : Heap}
theorem tu_bt {S : Addr × List Int} {H H' : Hp} {r : Addr} (h : Row K S H r) (b : Bt r H H') : Tu K H H' := tu_rd fun a xs q => by
  obtain ⟨x, y, z, h1⟩ := h
  have n : ∀ u, H a = some u → (∀ zs, u ≠ .lst zs) → a ≠ r := fun u e n w => by
    rw [w, h1.1] at e
    exact n _ (Option.some.inj e).symm
  rcases q with q | ⟨o, q⟩
  · exact .inl (b a _ (n _ q fun _ z => nomatch z) q)
  · exact .inr ⟨o, b a _ (n _ q fun _ z => nomatch z) q⟩
/-- a kind that the law draws -/
def Gd (y : Str) (p : Str × Str) : Prop := p.1.length ≤ 3 ∧ p.2.length ≤ 1 ∧ allIn y p.1 = true ∧ allIn y p.2 = true ∧ p.1 ≠ p.2
theorem lay_kinds {y : Str} (hy : PyData.strOk y = true) : ∀ ps : List (Str × Str), (∀ p ∈ ps, allIn y p.1 = true ∧ allIn y p.2 = true) → PyData.canLayAll0 (ps.map kD) = true ∧ PyData.depthAll (ps.map kD) ≤ 2
  | [], _ => by simp [PyData.canLayAll0, PyData.depthAll]
  | p :: ps, h => by
    have z := lay_kinds hy ps fun q hq => h q (List.mem_cons_of_mem _ hq)
    have z1 := h p (List.mem_cons_self ..)
    refine ⟨by simp [kD, PyData.canLay0, PyData.canLayAll0, strOk_in hy z1.1, strOk_in hy z1.2, z.1], ?_⟩
    have e : PyData.depthAll ((p :: ps).map kD) = max (kD p).depth (PyData.depthAll (ps.map kD)) := by simp [PyData.depthAll]
    have e2 : (kD p).depth ≤ 2 := by simp [kD, PyData.depth, PyData.depthAll]
    rw [e]
    have := z.2
    omega
theorem shaped_kinds {y : Str} (hy : PyData.strOk y = true) {ps : List (Str × Str)} (h : ∀ p ∈ ps, allIn y p.1 = true ∧ allIn y p.2 = true) : SeqAt.shaped (.list (ps.map kD)) = true := by
  have z := lay_kinds hy ps h
  unfold SeqAt.shaped
  have e : (PyData.list (ps.map kD)).depth = PyData.depthAll (ps.map kD) + 1 := by simp [PyData.depth, Nat.add_comm]
  rw [e, decide_eq_true (by have := z.2; omega), Bool.and_true]
  simpa [PyData.canLay0] using z.1
theorem shaped_kind {y : Str} (hy : PyData.strOk y = true) {p : Str × Str} (h1 : allIn y p.1 = true) (h2 : allIn y p.2 = true) : SeqAt.shaped (kD p) = true := by
  unfold SeqAt.shaped
  simp [kD, PyData.canLay0, PyData.canLayAll0, PyData.depth, PyData.depthAll, strOk_in hy h1, strOk_in hy h2]
theorem d_notIn {σ : L2.St} {H : Hp} {ta tb : TE} {d : PyData} {ds : List PyData} (h : EvD K ta σ H d) (h2 : EvD K tb σ H (.list ds)) (sd : SeqAt.shaped d = true) (se : SeqAt.shaped (.list ds) = true) : EvD K (tOp (rNotInD K) ta tb) σ H (.bool (!ds.any fun z => PyData.eqv z d)) := fun H1 a Q q =>
  h H1 a _ fun v H2 u hd => h2 H2 (a.trans u) _ fun w H3 y he => ⟨d, ds, dp_ex y hd, he, sd, se, q _ H3 (u.trans y) (.bl _)⟩
abbrev nKinds : List Str := ["row", "letters", "most", "found", "turn", "kind"]
def spKinds (K : PySem.W.Frag) : Sp := fun vs H Q _ => ∃ (r : Addr) (S : Addr × List Int) (y : Str) (m : Nat), vs = [.ref r, .str y, .int (m : Int)] ∧ Row K S H r ∧ PyData.strOk y = true ∧ 0 < y.length ∧ y.length ≤ 1000 ∧ m ≤ 1000 ∧
  ∀ v (ps : List (Str × Str)) H', Dp K H' v (.tuple (ps.map kD)) → ps.Nodup → ps.length ≤ m → (∀ p ∈ ps, Gd y p) → Bt r H H' → Row K S H' r → Q v H'
end
end K24

set_option maxHeartbeats 4000000
set_option autoImplicit true
/-! lambdas with parameters and captured names: made, called, handed to sorted. -/
namespace AsLam
open PySem PySem.Spec PyProof.Rows L2 LamX NdefX
open Evl (Ex)

/-- at f stands the lambda F, e its expression -/
def LamO (f : Addr) (F : NF) (e : Expr) : HO := .ext fun h => ∃ (od : Option Addr) (sl : Array (Option Value)) (pm ctv : Value), h.get? f = some (⟨.type "function", od, .func (PySem.W.kla_fn F.name F.qual F.params e F.scope F.cl pm (.ref F.c) ctv), sl⟩ : Obj)
theorem lamO_at {P : Program} {w : World} {H : Hp} {h : Heap} {f : Addr} {F : NF} {e : Expr} (ok : HOk P w H h) (q : H f = some (LamO f F e)) :
    ∃ (od : Option Addr) (sl : Array (Option Value)) (pm ctv : Value), h.get? f = some (⟨.type "function", od, .func (PySem.W.kla_fn F.name F.qual F.params e F.scope F.cl pm (.ref F.c) ctv), sl⟩ : Obj) := (ok f _ q).1

/-- its promise; ws what the captured names hold -/
structure LOk (P : Program) (w : World) (K : PySem.W.Frag) (mg : Str → Option Value) (base : Heap) (CX : CXT) (k : Nat) (f : Addr) (F : NF) (e : Expr) (ps fr : List Str) (sp : List (Option V) → Sp) : Prop where
  len : ∀ ws vs H Q E, sp ws vs H Q E → vs.length = ps.length
  run : ∀ (A : Around) (outer : List Env) (s : Shared) (H : Hp) (us : List Value) (vs : List V) (ws : List (Option V)) (Q : VK) (E : XK), Room k A → Env0 P w K mg base A outer s H → H f = some (LamO f F e) → H F.c = some (CodeO F.c F.qual) →
    CellsAt F.cl fr ws s.heap H → Vals vs us → sp ws vs H Q E → codeAny (model P w) A (.call (.ref f) ⟨us, []⟩) (CR CX outer P w H s Q E) s
section
variable {CX : CXT} {P : Program} {w : World} {K : PySem.W.Frag} {mg : Str → Option Value} {base : Heap} {N ps fr : List Str} {F : NF} {f : Addr} {k : Nat} {e : Expr} {sp : List (Option V) → Sp}
theorem lok_of (S : NScope N ps fr F.scope) (hb : ∀ (pm ctv : Value) (us : List Value), us.length = ps.length → bindArgs (PySem.W.kla_fn F.name F.qual F.params e F.scope F.cl pm (.ref F.c) ctv) ⟨us, []⟩ = pure (ps.zip us)) (len : ∀ ws vs H Q E, sp ws vs H Q E → vs.length = ps.length)
    (body : ∀ (A : Around) (outer : List Env) (s : Shared) (H : Hp) (vs : List V) (ws : List (Option V)) (Q : VK) (E : XK), Room k (A.deeper (envF F f s.heap.objs.size)) → ws.length = fr.length → sp ws vs H Q E →
      ∃ t, PE (ncx CX P w K mg base N F f A outer s H E) e t ∧ t (startF N vs ws) H Q) : LOk P w K mg base CX (k + 1) f F e ps fr sp := by
  refine ⟨len, fun A outer s H us vs ws Q E hr e0 hf hc C r hsp => ?_⟩
  have hl := len _ _ _ _ _ hsp
  have lim : s.heap.NoLimit := e0.mod.nolimit.keeps fun b o q => (e0.bs b o q).1
  obtain ⟨od, sl, pm, ctv, ho⟩ := lamO_at e0.hok hf
  refine PySem.W.kla_callFunE hr.depth ho rfl S.co S.gen rfl (codeO_at e0.hok hc) ?_
  rw [hb pm ctv us (by rw [← r.length]; exact hl)]
  refine wpAny_pure (wpAny_newFunctionEnv S.nocell (fun ⟨n, _⟩ hy => S.par n (List.of_mem_zip hy).1) (fun h1 hns hsb => ⟨lim.fresh _ hsb, ?_⟩) S.kind)
  show codeAny _ _ (.expr e (envF F f s.heap.objs.size)) _ _
  have kp : ∀ b o, s.heap.get? b = some o → h1.get? b = some o := fun b o q => hsb.extBut b o (Nat.ne_of_lt (Heap.lt_size q)) (Heap.get?_push_of_some _ q)
  obtain ⟨t, ht, hq⟩ := body A outer s H vs ws Q E (hr.deeper _) C.len hsp
  have I : Inv (ncx CX P w K mg base N F f A outer s H E) [] (startF N vs ws) H { s with heap := h1, toks := s.toks + (ps.zip us).length } := inv_startN S hr.hd e0 hl r C hns kp
  refine PySem.W.kla_codeExpr (wpAny_mono (ht.run [] _ (startF N vs ws) H _ I hq) (fun v s' hs => ?_) fun e' s' hs => hs)
  obtain ⟨v', H', J, rv, q⟩ := hs
  exact ⟨v', H', J.os, J.bare, J.base, J.hok, rv, q⟩
end

section
variable {X : Cx} {pins : List (Addr × Obj)} {σ : L2.St} {H : Hp} {s : Shared}
theorem inv_lam {F : NF} {e : Expr} {o : Obj} {t' : Nat} {pm ctv : Value} (I : Inv X pins σ H s) (ho : o = { cls := .type "function", data := .func (PySem.W.kla_fn F.name F.qual F.params e F.scope F.cl pm (.ref F.c) ctv) }) :
    Inv X pins σ (upd H s.heap.objs.size (LamO s.heap.objs.size F e)) { s with heap := s.heap.push o, toks := t' } := by
  subst ho
  have z : (s.heap.push ({ cls := .type "function", data := .func (PySem.W.kla_fn F.name F.qual F.params e F.scope F.cl pm (.ref F.c) ctv) } : Obj)).get? s.heap.objs.size = some _ := Heap.get?_push_size _ rfl
  exact I.laid (a := s.heap.objs.size) (fun b u q => Heap.get?_push_of_some _ q) (Nat.le_refl _) ⟨⟨_, _, pm, ctv, z⟩, ⟨_, z⟩, fun h1 h2 ⟨od, sl, p, t, y⟩ st => ⟨od, sl, p, t, st _ y⟩⟩
abbrev lamF (X : Cx) (params : Arguments) (scope : Scope) (c' : Addr) : NF := ⟨"<lambda>", X.env.qual ++ "<lambda>", params, [], scope, cloFrom X.env.cells scope.names [], c'⟩
/-- a lambda is made -/
theorem lam_make {T : List NTab} {nm : Nat → Nat → Str} {c P : Addr} {params : Arguments} {body : Expr} {scope : Scope} {pos : Pos} {E : Value → Shared → Prop} {Q : Value → Shared → Prop} (I : Inv X pins σ H s) (TB : TabB X.base X.mg c P) (hcode : X.env.code = .ref c)
    (hm : (P, nm) ∈ T) (hn : nm pos.line pos.col = X.env.qual ++ "<lambda>") (hu : ∀ p ∈ T, p.1 = P → p.2 = nm) (hT : TabsN T H) (hdef : defaultsOf params X.env = ([], [])) (hfree : ∀ y ∈ scope.names, y.2 = .free → ∃ c, X.env.cells.lookup y.1 = some c)
    (h : ∀ (f c' : Addr) (G : Hp) (z : Shared), Inv X pins σ G z → ExtN H G → (∀ b, G b = none → H b = none) → TabsN T G → H f = none → G f = some (LamO f (lamF X params scope c') body) → G c' = some (CodeO c' (X.env.qual ++ "<lambda>")) → Q (.ref f) z) :
    wpAny (model X.prog X.w) X.A (eval (.Lambda params body scope pos) X.env) Q E s := by
  obtain ⟨ps, hP, ht, ha⟩ := (show TabN H P nm from hT _ hm)
  refine PySem.W.kla_eval hdef ?_
  have bP : s.heap.BuiltinsAt X.mg P := TB.bm.keeps I.bk
  have oP : s.heap.get? P = some { cls := .none, data := .fields ps } := I.hok P _ hP
  cases hc : codeAmong pos ps.toList with
  | some cv =>
    obtain ⟨c', rfl, hco⟩ := ha pos cv hc
    rw [hn] at hco
    refine PySem.W.kla_makeFunctionHit (mg := X.mg) (c := c) (P := P) (ps := ps) (closure_ok hfree) I.ok.glob (I.mod.glob.keeps I.bk) hcode (TB.code.keeps I.bk) oP ht hc bP fun ctv h' tk hx _ => ?_
    have I1 : Inv X pins σ H { s with heap := h', toks := tk } := I.kept hx
    have nF : H h'.objs.size = none := I1.hok.fresh (Nat.le_refl _)
    have I2 := inv_lam (F := lamF X params scope c') (e := body) (t' := tk) (pm := (X.mg "__name__").getD .none) (ctv := ctv) I1 rfl
    exact h h'.objs.size c' _ _ I2 (fun b o e _ => (upd_ne (ne_of_none e nF)).trans e) (fun b e => upd_none e) (hT.ext fun b o e => (upd_ne (ne_of_none e nF)).trans e) nF upd_same ((upd_ne (ne_of_none hco nF)).trans hco)
  | none =>
    refine PySem.W.kla_makeFunction (mg := X.mg) (c := c) (P := P) (ps := ps) (closure_ok hfree) I.ok.glob (I.mod.glob.keeps I.bk) hcode (TB.code.keeps I.bk) oP ht hc TB.gP bP fun c' ctv h' tk hx hge hlt hrec htb => ?_
    obtain ⟨c2, oc, vs, t, e2, hoc, hd, hv⟩ := hrec
    cases e2
    have nC : H c' = none := I.hok.fresh hge
    obtain ⟨more, emore⟩ : ∃ more : Array Value, more = #[rawInt pos.line, rawInt pos.col, .ref c'] := ⟨_, rfl⟩
    rw [← emore] at htb
    obtain ⟨G, eG⟩ : ∃ G, G = upd (upd H P (.tbl (ps ++ more))) c' (CodeO c' (X.env.qual ++ "<lambda>")) := ⟨_, rfl⟩
    have I1 : Inv X pins σ G { s with heap := h', toks := tk } := by
      rw [eG]
      exact inv_table (t' := tk) (more := more) (h' := h') I hP (fun b o hb e => hx b o hb e) htb hge ⟨oc, vs, t, hoc, hd, hv⟩
    have gE : ExtN H G := fun b o e n => by
      rw [eG, upd_ne (ne_of_none e nC), upd_ne (fun z => n ps (Option.some.inj (e.symm.trans (by rw [z]; exact hP))))]
      exact e
    have gN : ∀ b, G b = none → H b = none := fun b e => by
      rw [eG] at e
      exact upd_none (upd_none e)
    have gC : G c' = some (CodeO c' (X.env.qual ++ "<lambda>")) := by rw [eG]; exact upd_same
    have gP : G P = some (.tbl (ps ++ more)) := by rw [eG, upd_ne (ne_of_none hP nC), upd_same]
    have eL : (ps ++ more).toList = ps.toList ++ [rawInt pos.line, rawInt pos.col, .ref c'] := by rw [emore]; simp
    have gT : TabsN T G := fun p hp => by
      by_cases hb : p.1 = P
      · rw [hu p hp hb, hb]
        refine ⟨_, gP, by rw [eL]; exact PySem.TriplesOk_snoc _ _ _ _ ht, fun p' cv hcv => ?_⟩
        rw [eL] at hcv
        rcases among_app2 _ ht hcv with z | ⟨z, z1, z2⟩
        · obtain ⟨c0, e1, e3⟩ := ha p' cv z
          exact ⟨c0, e1, gE _ _ e3 codeO_ne⟩
        · exact ⟨c', z, by rw [← z1, ← z2, hn]; exact gC⟩
      · obtain ⟨ps', a1, a2, a3⟩ := hT p hp
        refine ⟨ps', by rw [eG, upd_ne (ne_of_none a1 nC), upd_ne hb]; exact a1, a2, fun p' cv hcv => ?_⟩
        obtain ⟨c0, e1, e3⟩ := a3 p' cv hcv
        exact ⟨c0, e1, gE _ _ e3 codeO_ne⟩
    have nF : G h'.objs.size = none := I1.hok.fresh (Nat.le_refl _)
    have I2 := inv_lam (F := lamF X params scope c') (e := body) (t' := tk) (pm := (X.mg "__name__").getD .none) (ctv := ctv) I1 rfl
    refine h h'.objs.size c' _ _ I2 (fun b o e n => (upd_ne (ne_of_none (gE b o e n) nF)).trans (gE b o e n)) (fun b e => gN b (upd_none e)) (gT.ext fun b o e => (upd_ne (ne_of_none e nF)).trans e) (gN _ nF) upd_same ((upd_ne (Nat.ne_of_lt hlt)).trans gC)
end

section
variable {X : Cx}
/-- the value of a lambda -/
def tLam (T : List NTab) (mk : Addr → NF) (e : Expr) : TE := fun _ H Q => TabsN T H ∧ ∀ (f c' : Addr) (G : Hp), ExtN H G → (∀ b, G b = none → H b = none) → TabsN T G → H f = none → G f = some (LamO f (mk c') e) → G c' = some (CodeO c' (mk c').qual) → Q (.ref f) G
theorem pe_lam {T : List NTab} {nm : Nat → Nat → Str} {c P : Addr} {params : Arguments} {body : Expr} {scope : Scope} {pos : Pos} (TB : TabB X.base X.mg c P) (hcode : X.env.code = .ref c) (hm : (P, nm) ∈ T) (hn : nm pos.line pos.col = X.env.qual ++ "<lambda>") (hu : ∀ p ∈ T, p.1 = P → p.2 = nm)
    (hfree : ∀ y ∈ scope.names, y.2 = .free → X.env.scope.names.lookup y.1 = some .cell ∨ X.env.scope.names.lookup y.1 = some .free) (hdef : defaultsOf params X.env = ([], []) := by rfl) : PE X (.Lambda params body scope pos) (tLam T (lamF X params scope) body) := by
  refine ⟨fun pins s σ H Q I h => ?_⟩
  obtain ⟨hT, h⟩ := h
  exact lam_make I TB hcode hm hn hu hT hdef (fun y hy e => (hfree y hy e).elim (fun z => I.ok.has _ (.inl z)) fun z => I.ok.has _ (.inr z)) fun f c' G z J e1 e2 e3 e4 e5 e6 => ⟨.ref f, G, J, rfl, h f c' G e1 e2 e3 e4 e5 e6⟩

/-- a lambda without captured names as a key -/
theorem keys_lam {k : Nat} {f : Addr} {F : NF} {e : Expr} {x : Str} {pre : List PyData → Prop} {g : List PyData → PyData} {H : Hp} {xs : List V} {ds : List PyData} (L : LOk X.prog X.w X.K X.mg X.base CX0 k f F e [x] [] (fun _ => AsSort.spP X.K pre g)) (hr : Room (k + 2) X.A)
    (hf : H f = some (LamO f F e)) (hc : H F.c = some (CodeO F.c F.qual)) (hcl : F.cl = []) (hd : DpAll X.K H xs ds) (hp : ∀ d ∈ ds, pre [d]) : AsSort.Keys X (.ref f) H xs (ds.map fun d => g [d]) := by
  intro pins σ G z i v u d I ex hx hk ru
  rw [List.getElem?_map] at hk
  cases hi : ds[i]? with
  | none => rw [hi] at hk; cases hk
  | some d0 =>
    rw [hi] at hk
    have ed : g [d0] = d := Option.some.inj hk
    have hv : Dp X.K G v d0 := AsSort.dp_ex ex (AsSort.dpAll_get hd hx hi)
    have E0' : Env0 X.prog X.w X.K X.mg X.base X.A.in1.in1 X.stack z G := I.env0.in1.in1
    have C : CellsAt F.cl [] [] z.heap G := by
      rw [hcl]
      exact ⟨rfl, fun _ _ q => (nomatch q), fun _ _ _ q => (nomatch q), fun i y q => (nomatch q)⟩
    refine wpAny_call (codeAny_mono (L.run X.A.in1.in1 X.stack z G [u] [v] [] (fun v G' => Ex G G' ∧ Dp X.K G' v d) E0 hr.in1.in1 E0' (ex _ _ hf) (ex _ _ hc) C (.cons ru .nil) ⟨[d0], .cons hv .nil, hp d0 (List.mem_of_getElem? hi), fun w' G' e' h' => ⟨e', by rw [← ed]; exact h'⟩⟩) fun r s' hq => ?_)
    cases r with
    | error e => exact hq.elim
    | ok fl =>
      cases fl with
      | ret u => exact I.after hq
      | next => exact False.elim hq
      | brk => exact False.elim hq
      | cont => exact False.elim hq

/-- sorted(xs, key=f), f a lambda of the kind that mk tells -/
def rSortLam (K : PySem.W.Frag) (mk : Addr → NF) (e : Expr) (pre : List PyData → Prop) (g : List PyData → PyData) : List V → List V → Hp → VK → Prop := fun vs zs H Q => ∃ (l f c' : Addr) (xs : List V) (ds : List PyData), vs = [.ref l] ∧ zs = [.ref f] ∧ H f = some (LamO f (mk c') e) ∧ H c' = some (CodeO c' (mk c').qual) ∧
  (SqL K H l xs ∨ SqT K H l xs) ∧ DpAll K H xs ds ∧ (∀ d ∈ ds, pre [d]) ∧
  PySem.W.AllAlike (ds.map fun d => g [d]) ∧ PySem.W.Sortable (ds.map fun d => g [d]) ∧ AsSort.immAll (ds.map fun d => g [d]) = true ∧ (∀ d ∈ ds, (g [d]).depth ≤ 50) ∧
  ∀ p ys G, H p = none → Ex H G → G p = some (.lst ys) → DpAll K G ys (AsSort.sortD (fun d => g [d]) ds) → Q (.ref p) G
theorem cr_sortLam {k : Nat} {mk : Addr → NF} {e : Expr} {x : Str} {pre : List PyData → Prop} {g : List PyData → PyData} (L : ∀ f c', LOk X.prog X.w X.K X.mg X.base CX0 k f (mk c') e [x] [] (fun _ => AsSort.spP X.K pre g)) (hr : Room (k + 2) X.A) (hcl : ∀ c', (mk c').cl = []) (hc : ∀ c', (mk c').c = c') :
    CallRK X (.builtin "sorted") [Str.ofString "key"] (rSortLam X.K mk e pre g) := by
  intro pins s σ H vs zs us ws Q I r rz h
  obtain ⟨l, f, c', xs, ds, rfl, rfl, hf, hco, hs, hd, hp, hal, hso, him, hdep, q⟩ := h
  obtain rfl := Vals.ref1 r
  obtain ⟨w1, rfl, e1⟩ := vals1 rz
  obtain rfl : w1 = Value.ref f := e1
  refine AsSort.sorted_run (rev := false) I hs (keys_lam (L f c') hr hf (by rw [hc]; exact hco) (hcl c') hd hp) (by rw [List.length_map, AsSort.dpAll_len hd]) him hal hso (fun d hm => ?_) (PyProof.Rows.ksk_s1 _ _) (fun _ => PyProof.Rows.ksk_l1 _ _) (fun a => PyProof.Rows.ksk_t1 f a) fun p G np e => ?_
  · obtain ⟨d0, h0, rfl⟩ := List.mem_map.mp hm
    have h1 := hdep d0 h0
    have h2 := hr.un
    show X.A.units + 1 + 1 + (g [d0]).depth < cLine
    omega
  · exact q p _ G np ((Ex.new np).trans e) (e _ _ upd_same) (AsSort.dpAll_ex ((Ex.new np).trans e) (AsSort.byKey_dp _ hd))
end
end AsLam

set_option maxHeartbeats 4000000
set_option autoImplicit false
namespace AsKit
open PySem PySem.Spec PyProof.Rows L2 AsSort
open Evl (Ex Ev EvT EvA)
open LamX (ExtN)
theorem seq_extN {K : PySem.W.Frag} {H H' : Hp} {a : Addr} {xs : List V} (e : ExtN H H') (s : SqL K H a xs) : SqL K H' a xs := by
  rcases s with (s | ⟨o, s⟩) | s
  · exact .inl (.inl (e _ _ s fun _ z => nomatch z))
  · exact .inl (.inr ⟨o, e _ _ s fun _ z => nomatch z⟩)
  · exact .inr s
theorem tup_extN {K : PySem.W.Frag} {H H' : Hp} {a : Addr} {xs : List V} (e : ExtN H H') (s : SqT K H a xs) : SqT K H' a xs := by
  rcases s with (s | ⟨o, s⟩) | s
  · exact .inl (.inl (e _ _ s fun _ z => nomatch z))
  · exact .inl (.inr ⟨o, e _ _ s fun _ z => nomatch z⟩)
  · exact .inr s
mutual
theorem dp_extN {K : PySem.W.Frag} {G G' : Hp} (e : ExtN G G') : ∀ {v : V} {d : PyData}, Dp K G v d → Dp K G' v d
  | _, _, .non => .non
  | _, _, .bl b => .bl b
  | _, _, .int i => .int i
  | _, _, .str x => .str x
  | _, _, .lst a b => .lst (seq_extN e a) (dpAll_extN e b)
  | _, _, .tup a b => .tup (tup_extN e a) (dpAll_extN e b)
theorem dpAll_extN {K : PySem.W.Frag} {G G' : Hp} (e : ExtN G G') : ∀ {vs : List V} {ds : List PyData}, DpAll K G vs ds → DpAll K G' vs ds
  | _, _, .nil => .nil
  | _, _, .cons a b => .cons (dp_extN e a) (dpAll_extN e b)
end
theorem extN_ex {H H' : Hp} (e : Ex H H') : ExtN H H' := ExtN.of e
/-- a def of the top, its code object at c -/
def Dfc (K : PySem.W.Frag) (mg : Str → Option Value) (x : Str) (st : Stmt) (c : Addr) : Prop := ∃ f fd, FunD K x x (defArgs st) (defBody st) (defScope st) [] [] f fd ∧ mg x = some (.ref f) ∧ fd.code = .ref c
theorem cl_ofC {P : Program} {w : World} {K : PySem.W.Frag} {mg : Str → Option Value} {base : Heap} {x : Str} {st : Stmt} {N ps : List Str} {k : Nat} {sp : Sp} {c : Addr} (D : Dfc K mg x st c) (S : FnScope N ps (defScope st)) (len : ∀ vs H Q E, sp vs H Q E → vs.length = ps.length)
    (hb : ∀ (kV doc pm : Value) (an : Option Addr) (cdv ct : Value) (us : List Value), us.length = ps.length → bindArgs (PySem.W.fnOf x x (defArgs st) (defBody st) (defScope st) .none kV doc pm an cdv ct) ⟨us, []⟩ = pure (ps.zip us))
    (hbody : ∀ (f : Addr) (A : Around) (outer : List Env) (s : Shared) (H : Hp) (vs : List V) (Q : VK) (E : XK), Room k (A.deeper (envOfC x (defScope st) s.heap.objs.size f (.ref c))) → sp vs H Q E →
      ∃ t, PSs (cxOf CX0 P w K mg base N x (defScope st) f (.ref c) A outer s H E).nox (defBody st) t ∧ t { nx := fun _ H' => Q .non H', rt := Q } (start N vs) H) : Cl P w K mg base (k + 1) x sp [] := by
  obtain ⟨f, fd, F, hm, hc⟩ := D
  refine ⟨f, fd, ps, [], ?_, hm, F.kp, F.bindsN hb, .nil⟩
  obtain ⟨oc, od, dV, kV, doc, pm, an, cdv, ct, osl, rfl, lk, hcd, _, _⟩ := F.ex
  have e : cdv = .ref c := hc
  subst e
  refine fn_of lk hcd S len fun A outer s H vs Q E hr h => ?_
  obtain ⟨t, z, q⟩ := hbody f A outer s H vs Q E hr h
  exact ⟨t, z.nox, q⟩
section
variable {K : PySem.W.Frag} {σ : L2.St} {H : Hp} {to te ta tb : TE}
def rSW : V → List V → Hp → VK → Prop := fun x xs H Q => ∃ a b, x = .str a ∧ xs = [.str b] ∧ Q (.bl (Txt.startswith a b)) H
theorem d_sw {a b : Str} (h : EvD K to σ H (.str a)) (h2 : EvD K te σ H (.str b)) : EvD K (tM1 rSW to te) σ H (.bool (Txt.startswith a b)) := fun H1 e Q q =>
  h H1 e _ fun v H2 x hd => by
    cases hd
    exact ⟨⟨a, rfl⟩, h2 H2 (e.trans x) _ fun w H3 y he => by
      cases he
      exact ⟨a, b, rfl, rfl, q _ H3 (x.trans y) (.bl _)⟩⟩
theorem e_lcL {tl : TE} {t : TT} {gt : TG} {vs : List Nat} {ds : List PyData} (f : PyData → Bool) (g : PyData → PyData) (h : EvD K tl σ H (.list ds)) (hz : ds.length ≤ 50000) (him : ∀ d ∈ ds, f d = true → imm (g d) = true) (ht : ∀ d ∈ ds, Turn K gt t te vs σ H d (f d) (g d)) (H1 : Hp) (a : Ex H H1) (Q : VK)
    (q : ∀ p acc H2, H1 p = none → Ex H1 H2 → H2 p = some (.lst acc) → DpAll K H2 acc ((ds.filter f).map g) → Q (.ref p) H2) : tLc (iList K tl) gt t te vs σ H1 Q := h H1 a _ fun v H2 x hd => by
  cases hd with
  | lst hs hx =>
    refine ⟨_, rfl, ⟨_, hs⟩, fun D hD => lc_list (Cd K H2 ds f g D) (cd_start hD) (fun i H' _ p => Evl.ex_l p.2.1 hs) (fun i y H' hi p => ?_) fun H' p => ?_⟩
    · have hi2 : i < ds.length := by rw [← dpAll_len hx]; exact (List.getElem?_eq_some_iff.mp hi).1
      have hd : ds[i]? = some ds[i] := List.getElem?_eq_getElem hi2
      exact ht ds[i] (List.getElem_mem hi2) y H' (a.trans (x.trans p.2.1)) (dp_ex p.2.1 (dpAll_get hx hi hd)) _ fun σ2 w h1 h2 => ⟨w, cd_turn him p hd hz h1 h2⟩
    · rw [dpAll_len hx] at p
      obtain ⟨p1, p2, acc, p3, p4⟩ := p
      rw [List.take_length] at p4
      exact q D acc H' (Evl.fresh_back x p1) (x.trans p2) p3 p4
end
end AsKit

namespace K24
open PySem PySem.Spec PyProof.Rows L2 AsSort AsKit
open Evl (Ex Ev EvT EvA)
open LamX (ExtN TabB)
open NdefX (TabsN NTab NScope nscope_by NF startF)
section
variable {P : Program} {w : World} {K : PySem.W.Frag} {mg : Str → Option Value} {base : Heap}
theorem sc_behind : FnScope ["text", "deed"] ["text", "deed"] (defScope sBehind) := ⟨rfl, rfl, rfl, by decide +kernel, rfl, by decide +kernel, by decide +kernel⟩
theorem c_behind (D : Df K mg "_law_behind" sBehind) (hb : Bl mg) : Cl P w K mg base 1 "_law_behind" (spTextBehind K) [] := by
  refine cl_of D sc_behind (len_sp fun ds ⟨z, p, k, h, _⟩ => by rw [h]; rfl) (fun _ _ _ _ _ _ us hl => match us, hl with | [_, _], _ => rfl) fun f cdv A outer s H vs Q E hr h => ?_
  obtain ⟨ds, hd, ⟨z, p, k, rfl, hz, hk1, hk2⟩, q⟩ := h
  obtain ⟨v, v2, rfl, h0, h1⟩ := dp2 hd
  refine ⟨_, pss_one (ps_ret (pe_op op_add_str (pe_op op_add_str (pe_slice sl_str (pv 0) po_none (po_some (pe_ix ix_tup (pv 1) pe_int (fun _ _ => rfl)))) (pe_ix ix_tup (pv 1) pe_int (fun _ _ => rfl))) (pe_slice sl_str (pv 0) (po_some (pe_op op_add (pe_ix ix_tup (pv 1) pe_int (fun _ _ => rfl)) (pe_lenS hb (pe_ix ix_tup (pv 1) pe_int (fun _ _ => rfl))))) po_none))), ?_⟩
  have c0 : At K (start ["text", "deed"] [v, v2]) H 0 (.str z) := ⟨_, rfl, h0⟩
  have c1 : At K (start ["text", "deed"] [v, v2]) H 1 (.tuple [.int (p : Int), .str k.1, .str k.2]) := ⟨_, rfl, h1⟩
  have i0 := d_ixT (i := 0) (d_var c1) (d_int (i := 0)) rfl
  have i1 := d_ixT (i := 1) (d_var c1) (d_int (i := 1)) rfl
  have i2 := d_ixT (i := 2) (d_var c1) (d_int (i := 2)) rfl
  have l1 := cut_len z none (some (p : Int))
  have l2 := cut_len z (some ((p + k.1.length : Nat) : Int)) none
  exact AsKit.s_ret (K := K) (d_addS (x := cutS z none (some (p : Int)) ++ k.2) (y := cutS z (some ((p + k.1.length : Nat) : Int)) none) (d_addS (d_slS (d_var c0) p_none (p_some i0) (by omega)) i2 (by omega))
    (d_slS (d_var c0) (p_some (d_eqTo (d_arI (g := fun i j => i + j) i0 (d_lenS i1 (by omega))) (by rw [Int.natCast_add]))) p_none (by omega)) (by rw [add_len]; omega)) q
/-- the lambda of _law_deeds -/
def lamIn (st : Stmt) : Expr := match defBody st with
  | _ :: .For _ _ (_ :: .Assign _ (.Call _ _ (⟨_, e, _⟩ :: _) _) _ :: _) _ _ :: _ => e
  | _ => .Constant .none 0 ⟨0, 0, 0, 0⟩
def lamPar : Expr → Arguments
  | .Lambda p _ _ _ => p
  | _ => ⟨[], [], none, [], [], none, []⟩
def lamBody : Expr → Expr
  | .Lambda _ b _ _ => b
  | e => e
def lamScope : Expr → Scope
  | .Lambda _ _ s _ => s
  | _ => ⟨.function, [], false, false, []⟩
abbrev lamE : Expr := lamIn sDeedsL
abbrev lamQ : Str := "_law_deeds.<locals>.<lambda>"
def lamF (c' : Addr) : NF := ⟨"<lambda>", lamQ, lamPar lamE, [], lamScope lamE, [], c'⟩
theorem sc_lam : NScope ["kind"] ["kind"] [] (lamScope lamE) := nscope_by (by decide +kernel)
abbrev preK (ds : List PyData) : Prop := ∃ p : Str × Str, ds = [kD p] ∧ p.1.length ≤ 40000 ∧ p.2.length ≤ 40000
theorem lam_ok (hb : Bl mg) (f c' : Addr) : AsLam.LOk P w K mg base CX0 1 f (lamF c') (lamBody lamE) ["kind"] [] (fun _ => spP K preK (one flatK)) := by
  refine AsLam.lok_of sc_lam (fun pm ctv us hl => match us, hl with | [_], _ => rfl) (fun _ => len_sp fun ds ⟨p, h, _⟩ => by rw [h]; rfl) fun A outer s H vs ws Q E hr hw h => ?_
  obtain ⟨ds, hd, ⟨p, rfl, h1, h2⟩, q⟩ := h
  obtain ⟨v, rfl, h0⟩ := dp1 hd
  obtain rfl := List.eq_nil_of_length_eq_zero hw
  refine ⟨_, pe_tup (pa_cons (pe_lenS hb (pe_ix ix_tup (pv 0) pe_int (fun _ _ => rfl))) (pa_cons (pe_ix ix_tup (pv 0) pe_int (fun _ _ => rfl)) (pa_cons (pe_lenS hb (pe_ix ix_tup (pv 0) pe_int (fun _ _ => rfl))) (pa_cons (pe_ix ix_tup (pv 0) pe_int (fun _ _ => rfl)) pa_nil)))), ?_⟩
  have c0 : At K (startF ["kind"] [v] []) H 0 (.tuple [.str p.1, .str p.2]) := ⟨_, rfl, h0⟩
  have i0 := d_ixT (i := 0) (d_var c0) (d_int (i := 0)) rfl
  have i1 := d_ixT (i := 1) (d_var c0) (d_int (i := 1)) rfl
  exact d_tup (ds_cons (d_lenS i0 (by omega)) (ds_cons i0 (ds_cons (d_lenS i1 (by omega)) (ds_cons i1 ds_nil)))) (by show 4 ≤ 100000; decide) H (Ex.refl H) Q q
end
end K24

set_option maxHeartbeats 4000000
set_option autoImplicit false
/-! the law's menders. -/
namespace K24
open PySem PySem.Spec PyProof.Rows L2 AsSort AsKit
open Evl (Ex Ev EvT EvA)
abbrev sMender : Stmt := top 43
section
variable {P : Program} {w : World} {K : PySem.W.Frag} {mg : Str → Option Value} {base : Heap}
theorem allIn_app {y a b : Str} (h1 : allIn y a = true) (h2 : allIn y b = true) : allIn y (a ++ b) = true := by
  unfold allIn at *
  have e : (a ++ b).cps.toList = a.cps.toList ++ b.cps.toList := by
    show (a.cps ++ b.cps).toList = _
    exact Array.toList_append
  rw [e, List.all_append, h1, h2]
  rfl
theorem allIn_one {y : Str} {c : Nat} (h : c ∈ y.cps.toList) : allIn y ⟨#[c]⟩ = true := by
  unfold allIn
  show [c].all _ = true
  simpa using h
theorem allIn_nil (y : Str) : allIn y "" = true := by
  unfold allIn
  rw [show ("" : Str).cps.toList = [] from by decide +kernel]
  rfl
/-- a mender's kind -/
def GdM (y : Str) (p : Str × Str) : Prop := Gd y p ∧ p.2.length < p.1.length
abbrev nMender : List Str := ["row", "letters", "found", "turn", "l", "kind"]
theorem sc_mender : FnScope nMender ["row", "letters"] (defScope sMender) := ⟨rfl, rfl, rfl, by decide +kernel, rfl, by decide +kernel, by decide +kernel⟩
def spMender (K : PySem.W.Frag) : Sp := fun vs H Q _ => ∃ (r : Addr) (S : Addr × List Int) (y : Str), vs = [.ref r, .str y] ∧ Row K S H r ∧ PyData.strOk y = true ∧ 0 < y.length ∧ y.length ≤ 1000 ∧
  ∀ u (ps : List (Str × Str)) H', Dp K H' u (.tuple (ps.map kD)) → ps.Nodup → ps.length ≤ 4 → ps ≠ [] → (∀ p ∈ ps, GdM y p) → Bt r H H' → Row K S H' r → Q u H'
/-- .. as it grows -/
def MdI (K : PySem.W.Frag) (S : Addr × List Int) (r : Addr) (y : Str) (H : Hp) (i : Nat) (σ' : L2.St) (H' : Hp) : Prop := ∃ (l : Addr) (x3 x4 x5 : Option V), σ' = [some (.ref r), some (.str y), some (.ref l), x3, x4, x5] ∧ Bt r H H' ∧ Row K S H' r ∧ l ≠ r ∧ ∃ (acc : List V) (ps : List (Str × Str)), H' l = some (.lst acc) ∧ DpAll K H' acc (ps.map kD) ∧ ps.Nodup ∧ ps.length ≤ i ∧ (0 < i → ps ≠ []) ∧ ∀ p ∈ ps, GdM y p
theorem c_mender (D : Df K mg "_law_mender" sMender) (hb : Bl mg) (C1 : Cl P w K mg base 1 "_law_taken" (spTaken K) []) (C2 : Cl P w K mg base 2 "_law_pick" (spPick K) []) (C3 : Cl P w K mg base 3 "_law_text" (spText K) []) : Cl P w K mg base 4 "_law_mender" (spMender K) [] := by
  refine cl_of D sc_mender (fun vs H Q E ⟨r, S, y, h, _⟩ => by rw [h]; rfl) (fun _ _ _ _ _ _ us hl => match us, hl with | [_, _], _ => rfl) fun f cdv A outer s H vs Q E hr h => ?_
  obtain ⟨r, S, y, rfl, hR, hso, hy, hy2, q⟩ := h
  have hu : (A.deeper (envOfC "_law_mender" (defScope sMender) s.heap.objs.size f cdv)).units + 65 < cLine := by have := hr.un; omega
  refine ⟨_, pss_cons (ps_set (i := 2) sc_mender.nd rfl (.inl rfl) (pe_lst pa_nil))
    (pss_cons (ps_for PassesOwn.never rfl (pi_range1 (by rfl) (hb _ (by decide +kernel)) (pa_cons (pe_op op_add pe_int (C8.pe_c C1 hr (by decide) (by rfl) (pa_cons (pv 0) (pa_cons pe_int pa_nil)))) pa_nil)) (pg_name (i := 3) sc_mender.nd rfl (.inl rfl))
      (pss_cons (ps_set (i := 4) sc_mender.nd rfl (.inl rfl) (pe_op op_add_str (C8.pe_c C3 hr (by decide) (by rfl) (pa_cons (pv 0) (pa_cons (pv 1) (pa_cons pe_int pa_nil)))) (C8.pe_c C2 hr (by decide) (by rfl) (pa_cons (pv 0) (pa_cons (pe_callTy (call_listS1 rfl) (by rfl) (hb _ (by decide +kernel)) (by decide +kernel) (pa_cons (pv 1) pa_nil)) pa_nil)))))
      (pss_cons (ps_set (i := 5) sc_mender.nd rfl (.inl rfl) (pe_tup (pa_cons (pv 4) (pa_cons (pe_ifExp (pt_cmpR op_gt (pe_lenS hb (pv 4)) pe_int (nomark _)) (C8.pe_c C3 hr (by decide) (by rfl) (pa_cons (pv 0) (pa_cons (pv 1) (pa_cons pe_int pa_nil)))) pe_str) pa_nil))))
      (pss_one (ps_set (i := 2) sc_mender.nd rfl (.inl rfl) (pe_op op_cat (pv 2) (pe_op op_rep (pe_lst (pa_cons (pv 5) pa_nil)) (pe_int1 hb (pe_cmpR (op_notInD hu) (pv 5) (pv 2) rfl)))))))))
    (pss_one (ps_ret (pe_tupQ hb (pv 2))))), ?_⟩
  refine ⟨Evl.sz_of (Nat.zero_le _), fun l nl => ?_⟩
  have nL := row_new (o := .lst []) hR nl
  refine ⟨.ref r, rfl, r, S, 4, rfl, nL.2.1, by omega, by omega, fun k H1 hk hb1 hR1 => ?_⟩
  have h1l : H1 l = some (.lst []) := hb1 l _ nL.1 upd_same
  refine ⟨1, (k : Int), rfl, rfl, 1 + (k : Int), rfl, by omega, by omega, ?_⟩
  refine for_range (lo := 0) (n := (1 + (k : Int)).toNat) (fun i σ' H' => MdI K S r y H i σ' H')
    ⟨l, _, _, _, rfl, nL.2.2.trans hb1, hR1, nL.1, [], [], h1l, .nil, List.nodup_nil, Nat.le_refl _, fun h => absurd h (Nat.lt_irrefl _), fun _ h => nomatch h⟩ (fun i σ' H' hi p => ?_) fun σ' H' p => ?_
  · obtain ⟨l, x3, x4, x5, rfl, p1, p2, lr, acc, ps, p3, p4, p5, p6, pN, p7⟩ := p
    have okp : ∀ p ∈ ps, allIn y p.1 = true ∧ allIn y p.2 = true := fun p hp => ⟨(p7 p hp).1.2.2.1, (p7 p hp).1.2.2.2.1⟩
    have himm : immAll (ps.map kD) = true := immAll_of fun d hd => by
      obtain ⟨p, _, rfl⟩ := List.mem_map.mp hd
      rfl
    -- l = .. + ..
    refine ⟨.ref r, rfl, .str y, rfl, r, S, y, 2, rfl, p2, hy, hy2, by omega, fun a H2 ha ha2 hb2 hR2 => ?_⟩
    refine ⟨.ref r, rfl, .str y, rfl, y, rfl, Evl.sz_of (by omega), fun t nt => ?_⟩
    have nT := row_new (o := .lst (y.cps.toList.map fun c => V.str ⟨#[c]⟩)) hR2 nt
    have hyl : y.cps.toList.length = y.length := Array.length_toList
    refine ⟨r, S, t, _, rfl, nT.2.1, nT.1, Evl.sq_of upd_same, ?_, by rw [List.length_map]; omega, fun x H3 hx hb3 hR3 => ?_⟩
    · intro e
      have := congrArg List.length e
      rw [List.length_map, List.length_nil] at this
      omega
    obtain ⟨c, hc, rfl⟩ := List.mem_map.mp hx
    have e1 : (⟨#[c]⟩ : Str).length = 1 := rfl
    have hl1 : (a ++ ⟨#[c]⟩ : Str).length ≤ 3 := by rw [add_len, e1]; omega
    have hl2 : allIn y (a ++ ⟨#[c]⟩) = true := allIn_app ha2 (allIn_one hc)
    have hl3 : 0 < (a ++ ⟨#[c]⟩ : Str).length := by rw [add_len, e1]; omega
    refine ⟨a, ⟨#[c]⟩, rfl, rfl, Evl.sz_of (by rw [e1]; omega), ?_⟩
    dsimp only [gName]
    obtain ⟨w, ew⟩ : ∃ w, w = a ++ (⟨#[c]⟩ : Str) := ⟨_, rfl⟩
    rw [← ew] at hl1 hl2 hl3 ⊢
    have b03 : Bt r H' H3 := hb2.trans (nT.2.2.trans hb3)
    -- kind
    have rest : ∀ (b : Str) (H4 : Hp), Bt r H3 H4 → Row K S H4 r → b.length ≤ 1 → allIn y b = true → b.length < w.length → ∀ (Dn : Ends), (∀ σ' H', MdI K S r y H (i + 1) σ' H' → Dn.nx σ' H') →
        ∀ cc, H4 cc = none → tAsg (tOp rCat (tVar 2) (tOp rRep (tLst (tCons (tVar 5) tNil)) (tCB rInt1 (tCons (tOp (rNotInD K) (tVar 5) (tVar 2)) tNil)))) (gName 2) Dn [some (.ref r), some (.str y), some (.ref l), some (.int (0 + (i : Nat))), some (.str w), some (.ref cc)] (upd H4 cc (.tup [.str w, .str b])) := fun b H4 hb4 hR4 l1 l2 l3 Dn fin cc nc => by
      have h4l : H4 l = some (.lst acc) := (b03.trans hb4) l _ lr p3
      obtain ⟨G, eG⟩ : ∃ G, G = upd H4 cc (.tup [.str w, .str b]) := ⟨_, rfl⟩
      have nC := row_new (o := .tup [.str w, .str b]) hR4 nc
      rw [← eG] at nC
      have cl : l ≠ cc := fun e => by rw [e, nc] at h4l; cases h4l
      have hGl : G l = some (.lst acc) := by rw [eG, upd_ne cl]; exact h4l
      have bG : Bt r H' G := (b03.trans hb4).trans nC.2.2
      have hacc : DpAll K G acc (ps.map kD) := dpAll_tu (tu_bt p2 bG) himm p4
      have hcd : Dp K G (.ref cc) (kD (w, b)) := .tup (Evl.st_of (by rw [eG, upd_same])) (.cons (.str w) (.cons (.str b) .nil))
      rw [← eG]
      refine ⟨.ref l, rfl, .ref cc, rfl, Evl.sz_of (by show 1 ≤ 100000; decide), fun t2 nt2 => ?_⟩
      obtain ⟨G2, eG2⟩ : ∃ G2, G2 = upd G t2 (.lst [.ref cc]) := ⟨_, rfl⟩
      rw [← eG2]
      have x2 : Ex G G2 := by rw [eG2]; exact Ex.new nt2
      have hG2 : G2 t2 = some (.lst [.ref cc]) := by rw [eG2, upd_same]
      have c5 : At K [some (.ref r), some (.str y), some (.ref l), some (.int (0 + (i : Nat))), some (.str w), some (.ref cc)] G2 5 (kD (w, b)) := ⟨_, rfl, dp_ex x2 hcd⟩
      have c2 : At K [some (.ref r), some (.str y), some (.ref l), some (.int (0 + (i : Nat))), some (.str w), some (.ref cc)] G2 2 (.list (ps.map kD)) := ⟨_, rfl, .lst (Evl.sq_of (x2 _ _ hGl)) (dpAll_ex x2 hacc)⟩
      refine d_notIn (d_var c5) (d_var c2) (shaped_kind hso hl2 l2) (shaped_kinds hso okp) G2 (Ex.refl _) _ fun v H5 e5 hv => ?_
      cases hv
      obtain ⟨bb, ebb⟩ : ∃ bb, bb = ((ps.map kD).any fun z => PyData.eqv z (kD (w, b))) := ⟨_, rfl⟩
      rw [← ebb]
      refine .inr ⟨!bb, rfl, t2, _, [.ref cc], rfl, rfl, e5 _ _ hG2, by cases bb <;> decide, by cases bb <;> decide, by cases bb <;> exact Evl.sz_of (by show 1 * _ ≤ 100000; decide), fun t3 nt3 => ?_⟩
      have h5l : H5 l = some (.lst acc) := e5 _ _ (x2 _ _ hGl)
      have tl : l ≠ t3 := fun e => by rw [e, nt3] at h5l; cases h5l
      have hn : acc.length ≤ 4 := by
        rw [dpAll_len p4, List.length_map]
        omega
      refine ⟨l, t3, acc, _, rfl, rfl, by rw [upd_ne tl]; exact h5l, upd_same, ?_, fun t4 nt4 => ?_⟩
      · cases bb
        · exact Evl.sz_of (by show acc.length + 1 ≤ 100000; omega)
        · exact Evl.sz_of (by show acc.length + 0 ≤ 100000; omega)
      have x5 : Ex G (upd (upd H5 t3 (.lst (List.replicate (if (!bb) = true then (1 : Int) else 0).toNat [V.ref cc]).flatten)) t4 (.lst (acc ++ (List.replicate (if (!bb) = true then (1 : Int) else 0).toNat [V.ref cc]).flatten))) := ((x2.trans e5).trans (Ex.new nt3)).trans (Ex.new nt4)
      have n4 := row_new (o := .lst (acc ++ (List.replicate (if (!bb) = true then (1 : Int) else 0).toNat [V.ref cc]).flatten)) (((nC.2.1.ex x2).ex e5).ex (Ex.new (o := .lst (List.replicate (if (!bb) = true then (1 : Int) else 0).toNat [V.ref cc]).flatten) nt3)) nt4
      refine fin _ _ ⟨t4, _, _, _, rfl, (p1.trans bG).trans (bt_ex x5), n4.2.1, n4.1, ?_⟩
      have hacc5 := dpAll_ex x5 hacc
      have hcd5 := dp_ex x5 hcd
      cases bb with
      | true => exact ⟨acc ++ [], ps, upd_same, by rw [List.append_nil]; exact hacc5, p5, by omega, fun _ e => (by rw [e] at ebb; simp at ebb), p7⟩
      | false =>
        have hnm : (w, b) ∉ ps := fun hmem => by
          have : ((ps.map kD).any fun z => PyData.eqv z (kD (w, b))) = true := List.any_eq_true.mpr ⟨_, List.mem_map_of_mem hmem, SeqAt.eqv_refl (kD (w, b)) (SeqAt.canLay_of_shaped (shaped_kind hso hl2 l2))⟩
          exact Bool.false_ne_true (ebb.trans this)
        refine ⟨acc ++ [.ref cc], ps ++ [(w, b)], upd_same, ?_, ?_, by rw [List.length_append]; show ps.length + 1 ≤ i + 1; omega, fun _ e => (by simp at e), fun p hp => ?_⟩
        · rw [List.map_append]
          exact dpAll_snoc hcd5 hacc5
        · exact List.nodup_append.mpr ⟨p5, List.nodup_cons.mpr ⟨List.not_mem_nil, List.nodup_nil⟩, fun x hx y' hy' e => by rw [List.mem_singleton.mp hy'] at e; exact hnm (e ▸ hx)⟩
        · rcases List.mem_append.mp hp with hp | hp
          · exact p7 p hp
          · rw [List.mem_singleton.mp hp]
            refine ⟨⟨hl1, l1, hl2, l2, fun e => ?_⟩, l3⟩
            have e : w = b := e
            rw [e] at l3
            omega
    refine ⟨.str w, rfl, ?_⟩
    have tst := t_ofD (K := K) (σ := [some (.ref r), some (.str y), some (.ref l), some (.int (0 + (i : Nat))), some (.str w), x5]) (H := H3) (d_cmpI (g := fun i j => decide (j < i)) (d_lenS (x := w) (d_var (i := 4) ⟨_, rfl, .str w⟩) (by omega)) (d_int (i := 1)))
    refine tst H3 (Ex.refl _) _ fun H4 e4 => ?_
    by_cases h1 : (1 : Int) < (w.length : Int)
    · rw [if_pos (decide_eq_true h1)]
      refine ⟨.ref r, rfl, .str y, rfl, r, S, y, 1, rfl, hR3.ex e4, hy, hy2, by omega, fun b H5 hb5 hb5' bb5 hR5 => ?_⟩
      refine ⟨Evl.sz_of (by show 2 ≤ 100000; decide), fun cc nc => ?_⟩
      dsimp only
      exact rest b H5 ((bt_ex e4).trans bb5) hR5 hb5 hb5' (by omega) _ (fun _ _ h => h) cc nc
    · rw [if_neg (by simpa using h1)]
      refine ⟨Evl.sz_of (by show 2 ≤ 100000; decide), fun cc nc => ?_⟩
      dsimp only
      exact rest "" H4 (bt_ex e4) (hR3.ex e4) (by decide) (allIn_nil y) (by show 0 < _; exact hl3) _ (fun _ _ h => h) cc nc
  · obtain ⟨l, x3, x4, x5, rfl, p1, p2, lr, acc, ps, p3, p4, p5, p6, pN, p7⟩ := p
    refine AsKit.s_ret (K := K) (d_tupOf (d_var ⟨_, rfl, .lst (Evl.sq_of p3) p4⟩)) fun u H2 e2 hu => q u ps H2 hu p5 (by omega) (pN (by omega)) p7 (p1.trans (bt_ex e2)) (p2.ex e2)
end
end K24

set_option maxHeartbeats 4000000
set_option autoImplicit false
/-! max(xs, key=f), f a lambda whose promise is a number. -/
namespace AsMax
open PySem PySem.Spec PyProof.Rows L2 LamX NdefX AsSort
open Evl (Ex)
section
variable {X : Cx} {pins : List (Addr × Obj)} {σ : L2.St} {H : Hp} {s : Shared}
/-- f gives the i-th item its i-th number, from wherever it is called one call deeper -/
def Keys1 (X : Cx) (f : Value) (H : Hp) (xs : List V) (ks : List Int) : Prop :=
  ∀ (pins : List (Addr × Obj)) (σ : L2.St) (G : Hp) (z : Shared) (i : Nat) (x : V) (u : Value) (n : Int), Inv X pins σ G z → Ex H G → xs[i]? = some x → ks[i]? = some n → RelV x u →
    wpAny (model X.prog X.w) X.A.in1 (call f [u]) (fun u' z' => ∃ v G', Inv X pins σ G' z' ∧ RelV v u' ∧ Ex G G' ∧ v = .int n ∧ ∀ b o, z.heap.get? b = some o → G b = none → b ∉ X.fs → b ≠ X.env.locals → z'.heap.get? b = some o ∧ G' b = none) (fun _ _ => False) z
def btI (ks : List Int) (i j : Nat) : Bool := decide (ks.getD i 0 > ks.getD j 0)
theorem fp_to {G G' : Hp} {b : Addr} (h : FpOk X pins G b) (n : G' b = none) : FpOk X pins G' b := ⟨n, h.2⟩
/-- the i-th of the first n, the first one with the greatest number -/
theorem max_run {l f : Addr} {xs : List V} {ks : List Int} {Q : VK} (hh : X.A.handled = none) (I : Inv X pins σ H s) (hs : SqL X.K H l xs) (hk : Keys1 X (.ref f) H xs ks) (hl : ks.length = xs.length) (hn : 0 < xs.length)
    (q : ∀ x G, xs[argBest (btI ks) (xs.length - 1)]? = some x → Ex H G → Q x G) : wpAny (model X.prog X.w) X.A (call (.builtin "max") [.ref l] [(Str.ofString "key", .ref f)]) (EP X pins σ Q) X.xe s := by
  obtain ⟨its, r, ⟨o, n, ho, hc, hsl, hd⟩, hz⟩ := I.list hs
  refine call_max_walkK (wpAny_pyIter_list (items := its.toArray) ⟨o, ho, hc, n, hd⟩ ?_)
  obtain ⟨it, eit⟩ : ∃ it, it = s.heap.objs.size := ⟨_, rfl⟩
  rw [← eit]
  obtain ⟨s2, e2⟩ : ∃ s2 : Shared, s2 = { s with heap := s.heap.push { cls := .type "list_iterator", data := .fields #[.ref l, .int 0 0] } } := ⟨_, rfl⟩
  rw [← e2]
  have kp : ∀ b o, s.heap.get? b = some o → s2.heap.get? b = some o := fun b o e => by rw [e2]; exact Heap.get?_push_of_some _ e
  have I2 : Inv X pins σ H s2 := by rw [e2]; exact I.kept (t' := s.toks) (fun b o e => Heap.get?_push_of_some _ e)
  have nit : H it = none := I.hok.fresh (by rw [eit]; exact Nat.le_refl _)
  have hit : s2.heap.get? it = some { cls := .type "list_iterator", data := .fields #[.ref l, .int 0 0] } := by rw [e2, eit]; exact Heap.get?_push_size _ rfl
  have fit : FpOk X pins H it := I.fpOk (by rw [eit]; exact Nat.le_refl _) nit
  have hsz2 : s2.heap.objs.size = it + 1 := by rw [e2, eit]; exact size_push' _ _
  have hlt : l < it := by rw [eit]; exact Heap.lt_size ho
  obtain ⟨S, eS⟩ : ∃ S, S = s2.heap.objs.size := ⟨_, rfl⟩
  have nS : H S = none := I2.hok.fresh (by rw [eS]; exact Nat.le_refl _)
  have fS : FpOk X pins H S := I2.fpOk (by rw [eS]; exact Nat.le_refl _) nS
  have hne : it ≠ S := by rw [eS, hsz2]; exact Nat.ne_of_lt (Nat.lt_succ_self _)
  have hlS : l ≠ S := by rw [eS, hsz2]; exact Nat.ne_of_lt (Nat.lt_succ_of_lt hlt)
  refine ⟨it, [it, l], [it], (fun a b => a = b), xs.length, (fun i v => ∃ x, xs[i]? = some x ∧ RelV x v), (fun i z => z.heap.IsListIter it l i ∧ ∃ its : List Value, Vals xs its ∧ z.heap.IsList l its.toArray), (fun z => ∃ G, Inv X pins σ G z ∧ Ex H G ∧ G it = none ∧ G S = none), (fun i k _ => ∃ t, k = .int (ks.getD i 0) t), btI ks, rfl, ?W, ⟨⟨_, hit, rfl, rfl⟩, its, r, _, kp _ _ ho, hc, n, hd⟩, ?fp, hn, ?K, ⟨H, I2, Ex.refl H, nit, nS⟩, ?fin⟩
  case fp =>
    intro b hb
    rw [hsz2]
    rcases List.mem_cons.mp hb with e | hb
    · rw [e]
      exact Nat.lt_succ_self _
    · rw [List.mem_singleton.mp hb]
      exact Nat.lt_succ_of_lt hlt
  case fin =>
    rintro v z ⟨x, hx, rv⟩ ⟨G, J, e, _, _⟩
    exact ⟨x, G, J, rv, q x G hx e⟩
  case W =>
    refine ⟨fun b hb => by rw [List.mem_singleton.mp hb]; exact List.mem_cons_self .., fun _ => rfl, fun _ _ _ a b => a.trans b, ?_, ?_, ?_, ?_⟩
    · rintro i z h' tk ⟨⟨o1, a1, a2, a3⟩, its', r', o2, b1, b2, b3⟩ ht k
      exact ⟨⟨o1, k it (List.mem_cons_self ..) _ a1, a2, a3⟩, its', r', o2, k l (List.mem_cons_of_mem _ (List.mem_cons_self ..)) _ b1, b2, b3⟩
    · rintro i z Q' E' hi ⟨h1, its', r', h2⟩ qq
      obtain ⟨u, hu, ru⟩ := r'.get (List.getElem?_eq_getElem hi)
      refine wpAny_pyNext_list_item h1 h2 (x := u) (by rw [List.getElem?_toArray]; exact hu) fun h' hit' sb => ?_
      obtain ⟨o2, b1, b2, b3⟩ := h2
      refine qq u _ ⟨_, List.getElem?_eq_getElem hi, ru⟩ ⟨hit', its', r', o2, (sb.2 l (Nat.ne_of_lt hlt)).trans b1, b2, b3⟩ ⟨fun b o hb e => ?_, rfl, rfl, rfl, Nat.le_refl _⟩
      exact (sb.2 b (fun e => hb (by rw [e]; exact List.mem_singleton.mpr rfl))).trans e
    · rintro z Q' E' ⟨h1, its', r', h2⟩ qq
      have hlen : its'.length = xs.length := r'.length.symm
      refine wpAny_pyNext_list_end hh h1 h2 (by rw [List.getElem?_toArray]; exact List.getElem?_eq_none (by omega)) fun h' eb => qq _ ⟨fun b o hb e => ?_, rfl, rfl, rfl, Nat.le_refl _⟩
      exact eb b o (fun e => hb (by rw [e]; exact List.mem_singleton.mpr rfl)) e
    · rintro i z Q' E' ⟨h1, _⟩ qq
      exact wpAny_pyIter_listiter h1 qq
  case K =>
    rw [← eS]
    refine ⟨?_, fun i k z z' h _ => h, ?_, ?_⟩
    · rintro z z' ⟨G, J, e, n1, n2⟩ M
      obtain ⟨zh, zg, zd, zt, zo⟩ := z
      obtain ⟨zh', zg', zd', zt', zo'⟩ := z'
      obtain ⟨m1, m2, m3, m4, m5⟩ := M
      dsimp only at m1 m2 m3 m4
      subst m2 m3 m4
      refine ⟨G, J.turnedL (h' := zh') (t' := zt') (ch := [S, it]) (fun b o hb e => m1 b o hb e) (fun b hb => ?_), e, n1, n2⟩
      rcases List.mem_cons.mp hb with rfl | hb
      · exact fp_to fS n2
      · rw [List.mem_singleton.mp hb]
        exact fp_to fit n1
    · rintro i v z oS Q' E' hi ⟨x, hx, rv⟩ ⟨G, J, e, n1, n2⟩ ⟨⟨o1, a1, a2, a3⟩, its', r', h2⟩ hS qq
      have hkn : ks[i]? = some (ks.getD i 0) := by
        rw [List.getD_eq_getElem?_getD, List.getElem?_eq_getElem (by omega)]
        rfl
      refine wpAny_mono (hk pins σ G z i x v _ J e hx hkn rv) (fun u' z' hq => ?_) fun _ _ hF => hF.elim
      obtain ⟨v', G', J', rv', e', rfl, kk⟩ := hq
      obtain ⟨t, rfl⟩ := rv'
      obtain ⟨its2, r2, ⟨o2, n2', b1, b2, b3, b4⟩, _⟩ := J'.list (Evl.ex_l (e.trans e') hs)
      exact qq _ z' ⟨G', J', e.trans e', (kk it _ a1 n1 fit.2.2.1 fit.2.1).2, (kk S _ hS n2 fS.2.2.1 fS.2.1).2⟩ ⟨⟨o1, (kk it _ a1 n1 fit.2.2.1 fit.2.1).1, a2, a3⟩, its2, r2, o2, b1, b2, n2', b4⟩ (kk S _ hS n2 fS.2.2.1 fS.2.1).1 ⟨t, rfl⟩ fun _ _ h => h
    · rintro i j ki kj z Q' E' _ h1 h2 qq
      exact PySem.CmpOf.ints_gt (P := fun i v => ∃ t, v = .int (ks.getD i 0) t) (fun i => ks.getD i 0) (fun i v h => h) i j _ _ _ _ _ h1 h2 qq
/-- a lambda without captured names as such a key -/
theorem keys1_lam {k : Nat} {f : Addr} {F : NF} {e : Expr} {x : Str} {pre : List PyData → Prop} {g : List PyData → PyData} {H : Hp} {xs : List V} {ds : List PyData} {ks : List Int} (L : AsLam.LOk X.prog X.w X.K X.mg X.base C8.CX0 k f F e [x] [] (fun _ => AsSort.spP X.K pre g)) (hr : Room (k + 1) X.A)
    (hf : H f = some (AsLam.LamO f F e)) (hc : H F.c = some (CodeO F.c F.qual)) (hcl : F.cl = []) (hd : DpAll X.K H xs ds) (hp : ∀ d ∈ ds, pre [d]) (hk : (ds.map fun d => g [d]) = ks.map PyData.int) : Keys1 X (.ref f) H xs ks := by
  intro pins σ G z i v u n I ex hx hn ru
  have hkn : (ds.map fun d => g [d])[i]? = some (.int n) := by rw [hk, List.getElem?_map, hn]; rfl
  rw [List.getElem?_map] at hkn
  cases hi : ds[i]? with
  | none => rw [hi] at hkn; cases hkn
  | some d0 =>
    rw [hi] at hkn
    have ed : g [d0] = .int n := Option.some.inj hkn
    have hv : Dp X.K G v d0 := AsSort.dp_ex ex (AsSort.dpAll_get hd hx hi)
    have E0' : Env0 X.prog X.w X.K X.mg X.base X.A.in1 X.stack z G := I.env0.in1
    have C : CellsAt F.cl [] [] z.heap G := by
      rw [hcl]
      exact ⟨rfl, fun _ _ q => (nomatch q), fun _ _ _ q => (nomatch q), fun i y q => (nomatch q)⟩
    refine wpAny_call (codeAny_mono (L.run X.A.in1 X.stack z G [u] [v] [] (fun v G' => Ex G G' ∧ Dp X.K G' v (.int n)) C8.E0 hr.in1 E0' (ex _ _ hf) (ex _ _ hc) C (.cons ru .nil) ⟨[d0], .cons hv .nil, hp d0 (List.mem_of_getElem? hi), fun w' G' e' h' => ⟨e', by rw [← ed]; exact h'⟩⟩) fun r s' hq => ?_)
    cases r with
    | error e => exact hq.elim
    | ok fl =>
      cases fl with
      | ret u =>
        obtain ⟨v', H', os, bare, un, hok, rr, e', hd'⟩ := hq
        cases hd'
        obtain ⟨hh, g', d', t', os'⟩ := s'
        obtain rfl : os' = z.os := os
        refine ⟨_, H', I.call (h' := hh) (g' := g') (d' := d') (t' := t') (ch := []) un hok bare (fun b z => absurd z (by simp)), rr, e', rfl, fun b o hb hn hfs hl => ⟨un.keep b o hb hn (fun w => (List.mem_cons.mp (I.stkSub b w)).elim hl hfs) List.not_mem_nil, un.free b o hb hn List.not_mem_nil⟩⟩
      | next => exact False.elim hq
      | brk => exact False.elim hq
      | cont => exact False.elim hq
/-- max(xs, key=f) -/
def rMaxLam (K : PySem.W.Frag) (mk : Addr → NF) (e : Expr) (pre : List PyData → Prop) (g : List PyData → PyData) : List V → List V → Hp → VK → Prop := fun vs zs H Q => ∃ (l f c' : Addr) (xs : List V) (ds : List PyData) (ks : List Int), vs = [.ref l] ∧ zs = [.ref f] ∧ H f = some (AsLam.LamO f (mk c') e) ∧ H c' = some (CodeO c' (mk c').qual) ∧
  SqL K H l xs ∧ DpAll K H xs ds ∧ (∀ d ∈ ds, pre [d]) ∧ (ds.map fun d => g [d]) = ks.map PyData.int ∧ 0 < ds.length ∧
  ∀ x d G, ds[argBest (btI ks) (ds.length - 1)]? = some d → Ex H G → Dp K G x d → Q x G
theorem cr_maxLam {k : Nat} {mk : Addr → NF} {e : Expr} {x : Str} {pre : List PyData → Prop} {g : List PyData → PyData} (L : ∀ f c', AsLam.LOk X.prog X.w X.K X.mg X.base C8.CX0 k f (mk c') e [x] [] (fun _ => AsSort.spP X.K pre g)) (hr : Room (k + 1) X.A) (hcl : ∀ c', (mk c').cl = []) (hc : ∀ c', (mk c').c = c') :
    CallRK X (.builtin "max") [Str.ofString "key"] (rMaxLam X.K mk e pre g) := by
  intro pins s σ H vs zs us ws Q I r rz h
  obtain ⟨l, f, c', xs, ds, ks, rfl, rfl, hf, hco, hs, hd, hp, hk, hn, q⟩ := h
  obtain rfl := Vals.ref1 r
  obtain ⟨w1, rfl, e1⟩ := vals1 rz
  obtain rfl : w1 = Value.ref f := e1
  have hl : xs.length = ds.length := AsSort.dpAll_len hd
  have hkl : ks.length = ds.length := by
    have := congrArg List.length hk
    rw [List.length_map, List.length_map] at this
    exact this.symm
  refine max_run hr.hd I hs (keys1_lam (L f c') hr hf (by rw [hc]; exact hco) (hcl c') hd hp hk) (by omega) (by omega) fun x G hx e => ?_
  rw [hl] at hx
  have hlt : argBest (btI ks) (ds.length - 1) < ds.length := by
    have := (List.getElem?_eq_some_iff.mp hx).1
    omega
  exact q x _ G (List.getElem?_eq_getElem hlt) e (AsSort.dp_ex e (AsSort.dpAll_get hd hx (List.getElem?_eq_getElem hlt)))
end
end AsMax

set_option maxHeartbeats 4000000
set_option autoImplicit false
/-! menders, told without the program. -/
namespace K24
open PySem PySem.Spec PyProof.Rows L2 AsSort AsKit AsMax
def lensK (ks : List (Str × Str)) : List Int := ks.map fun k => (k.1.length : Int)
def bestI (ks : List (Str × Str)) : Nat := argBest (btI (lensK ks)) (ks.length - 1)
def bestK (ks : List (Str × Str)) : Str × Str := ks.getD (bestI ks) ("", "")
theorem best_props (bt : Nat → Int) (b2 : Nat → Nat → Bool) (hb : ∀ i j, b2 i j = decide (bt i > bt j)) : ∀ k, argBest b2 k ≤ k ∧ (∀ j, j ≤ k → bt j ≤ bt (argBest b2 k)) ∧ ∀ j, j < argBest b2 k → bt j < bt (argBest b2 k)
  | 0 => ⟨Nat.le_refl _, fun j h => by rw [Nat.le_zero.mp h]; exact Int.le_refl _, fun j h => absurd h (Nat.not_lt_zero _)⟩
  | k + 1 => by
    obtain ⟨h1, h2, h3⟩ := best_props bt b2 hb k
    show (if b2 (k + 1) (argBest b2 k) = true then k + 1 else argBest b2 k) ≤ k + 1 ∧ (∀ j, j ≤ k + 1 → bt j ≤ bt (if b2 (k + 1) (argBest b2 k) = true then k + 1 else argBest b2 k)) ∧ ∀ j, j < (if b2 (k + 1) (argBest b2 k) = true then k + 1 else argBest b2 k) → bt j < bt (if b2 (k + 1) (argBest b2 k) = true then k + 1 else argBest b2 k)
    by_cases h : b2 (k + 1) (argBest b2 k) = true
    · rw [if_pos h]
      rw [hb] at h
      have h := of_decide_eq_true h
      refine ⟨Nat.le_refl _, fun j hj => ?_, fun j hj => ?_⟩
      · rcases Nat.lt_or_eq_of_le hj with hj | rfl
        · have := h2 j (by omega)
          omega
        · omega
      · have := h2 j (by omega)
        omega
    · rw [if_neg h]
      rw [hb] at h
      have h : ¬ bt (k + 1) > bt (argBest b2 k) := fun z => h (decide_eq_true z)
      refine ⟨by omega, fun j hj => ?_, h3⟩
      rcases Nat.lt_or_eq_of_le hj with hj | rfl
      · exact h2 j (by omega)
      · omega
theorem bestI_lt {ks : List (Str × Str)} (h : 0 < ks.length) : bestI ks < ks.length := by
  have := (best_props (fun i => (lensK ks).getD i 0) (btI (lensK ks)) (fun i j => rfl) (ks.length - 1)).1
  unfold bestI
  omega
theorem bestK_at {ks : List (Str × Str)} (h : 0 < ks.length) : ks[bestI ks]? = some (bestK ks) := by
  unfold bestK
  rw [List.getD_eq_getElem?_getD, List.getElem?_eq_getElem (bestI_lt h)]
  rfl
theorem lensK_at {ks : List (Str × Str)} {i : Nat} {k : Str × Str} (h : ks[i]? = some k) : (lensK ks).getD i 0 = (k.1.length : Int) := by
  unfold lensK
  rw [List.getD_eq_getElem?_getD, List.getElem?_map, h]
  rfl
theorem bestK_mem {ks : List (Str × Str)} (h : 0 < ks.length) : bestK ks ∈ ks := List.mem_of_getElem? (bestK_at h)
/-- the first with the greatest length -/
theorem bestK_first {ks : List (Str × Str)} (h : 0 < ks.length) {m : Int} (hm : m ∈ lensK ks) (hx : ∀ y ∈ lensK ks, y ≤ m) : (ks.filter fun k => decide ((k.1.length : Int) = m))[0]? = some (bestK ks) := by
  obtain ⟨p1, p2, p3⟩ := best_props (fun i => (lensK ks).getD i 0) (btI (lensK ks)) (fun i j => rfl) (ks.length - 1)
  have hb := bestK_at h
  have eb : (lensK ks).getD (bestI ks) 0 = ((bestK ks).1.length : Int) := lensK_at hb
  have em : ((bestK ks).1.length : Int) = m := by
    have l1 : ((bestK ks).1.length : Int) ≤ m := hx _ (List.mem_map.mpr ⟨_, bestK_mem h, rfl⟩)
    obtain ⟨k, hk, e⟩ := List.mem_map.mp hm
    obtain ⟨i, hi⟩ := List.mem_iff_getElem?.mp hk
    have hlt := (List.getElem?_eq_some_iff.mp hi).1
    have l2 := p2 i (by omega)
    have l2 : (lensK ks).getD i 0 ≤ (lensK ks).getD (bestI ks) 0 := l2
    rw [eb, lensK_at hi] at l2
    omega
  rw [← List.head?_eq_getElem?, List.head?_filter]
  refine List.find?_eq_some_iff_getElem.mpr ⟨by rw [em]; exact decide_eq_true rfl, bestI ks, bestI_lt h, ?_, fun j hj => ?_⟩
  · have := hb
    rw [List.getElem?_eq_getElem (bestI_lt h)] at this
    exact Option.some.inj this
  · have l3 := p3 j hj
    have hjl : j < ks.length := Nat.lt_trans hj (bestI_lt h)
    have l3 : (lensK ks).getD j 0 < (lensK ks).getD (bestI ks) 0 := l3
    rw [eb, lensK_at (List.getElem?_eq_getElem hjl)] at l3
    rw [Bool.not_eq_true', decide_eq_false_iff_not]
    omega
def fitsAt (ps : List (Str × Str)) (z : Str) (p : Nat) : List (Str × Str) := ps.filter (hitB z p)
def placeOf (ps : List (Str × Str)) (z : Str) : Option Nat := (List.range z.length).find? fun p => decide (fitsAt ps z p ≠ [])
def nextK (ps : List (Str × Str)) (z : Str) : Option (Nat × (Str × Str)) := (placeOf ps z).map fun p => (p, bestK (fitsAt ps z p))
def nextD (ps : List (Str × Str)) (z : Str) : PyData := match nextK ps z with
  | none => .none
  | some (p, k) => dD p k
/-- the kinds that a mender may have over letters y -/
def Men (y : Str) (ps : List (Str × Str)) : Prop := ∀ p ∈ ps, GdM y p
theorem next_fit {ps : List (Str × Str)} {z : Str} {p : Nat} {k : Str × Str} (h : nextK ps z = some (p, k)) : p < z.length ∧ k ∈ ps ∧ hitB z p k = true ∧ 0 < (fitsAt ps z p).length ∧ k = bestK (fitsAt ps z p) ∧ placeOf ps z = some p := by
  unfold nextK at h
  obtain ⟨q, hq, e⟩ := Option.map_eq_some_iff.mp h
  cases e
  have h1 : p ∈ List.range z.length := List.mem_of_find?_eq_some hq
  have h2 := List.find?_some hq
  have h3 : fitsAt ps z p ≠ [] := of_decide_eq_true h2
  have h4 := List.length_pos_iff.mpr h3
  have h5 := bestK_mem h4
  obtain ⟨h6, h7⟩ := List.mem_filter.mp h5
  exact ⟨List.mem_range.mp h1, h6, h7, h4, rfl, hq⟩
theorem hit_len {z : Str} {p : Nat} {k : Str × Str} (h : hitB z p k = true) : p + k.1.length ≤ z.length ∨ k.1.length = 0 := by
  have h := of_decide_eq_true h
  have hl := congrArg List.length h
  rw [List.length_take, List.length_drop] at hl
  have e1 : z.cps.toList.length = z.length := Array.length_toList
  have e2 : k.1.cps.toList.length = k.1.length := Array.length_toList
  omega
theorem bh_len {z : Str} {p : Nat} {k : Str × Str} (h : p + k.1.length ≤ z.length) : (bhS z p k).length + k.1.length = z.length + k.2.length := by
  have e : ∀ s : Str, s.length = s.cps.toList.length := fun s => Array.length_toList.symm
  unfold bhS
  rw [add_len, add_len, e (cutS z none (some (p : Int))), e (cutS z (some ((p + k.1.length : Nat) : Int)) none), cut_to, cut_from, List.length_take, List.length_drop]
  have := e z
  omega
theorem allIn_sub {y a b : Str} (h : allIn y a = true) (hs : ∀ c ∈ b.cps.toList, c ∈ a.cps.toList) : allIn y b = true := by
  unfold allIn at *
  rw [List.all_eq_true] at *
  exact fun c hc => h c (hs c hc)
theorem bh_in {y z : Str} {p : Nat} {k : Str × Str} (h1 : allIn y z = true) (h2 : allIn y k.2 = true) : allIn y (bhS z p k) = true := by
  unfold bhS
  refine allIn_app (allIn_app (allIn_sub h1 fun c hc => ?_) h2) (allIn_sub h1 fun c hc => ?_)
  · rw [cut_to] at hc
    exact List.mem_of_mem_take hc
  · rw [cut_from] at hc
    exact List.mem_of_mem_drop hc
theorem next_less {y : Str} {ps : List (Str × Str)} {z : Str} {p : Nat} {k : Str × Str} (hm : Men y ps) (h : nextK ps z = some (p, k)) : (bhS z p k).length < z.length := by
  obtain ⟨_, h2, h3, _⟩ := next_fit h
  have g := (hm k h2).2
  have l := bh_len (z := z) (p := p) (k := k) ((hit_len h3).resolve_right (by omega))
  omega
/-- done again and again, so often at most -/
def mendN (ps : List (Str × Str)) : Nat → Str → List (Nat × (Str × Str)) × Str
  | 0, z => ([], z)
  | n + 1, z => match nextK ps z with
    | none => ([], z)
    | some (p, k) => ((p, k) :: (mendN ps n (bhS z p k)).1, (mendN ps n (bhS z p k)).2)
theorem mend_none {ps : List (Str × Str)} {z : Str} (h : nextK ps z = none) : ∀ n, mendN ps n z = ([], z)
  | 0 => rfl
  | n + 1 => by
    show (match nextK ps z with | none => ([], z) | some (p, k) => ((p, k) :: (mendN ps n (bhS z p k)).1, (mendN ps n (bhS z p k)).2)) = _
    rw [h]
theorem mend_some {ps : List (Str × Str)} {z : Str} {p : Nat} {k : Str × Str} (h : nextK ps z = some (p, k)) (n : Nat) : mendN ps (n + 1) z = ((p, k) :: (mendN ps n (bhS z p k)).1, (mendN ps n (bhS z p k)).2) := by
  show (match nextK ps z with | none => ([], z) | some (p, k) => ((p, k) :: (mendN ps n (bhS z p k)).1, (mendN ps n (bhS z p k)).2)) = _
  rw [h]
def mend (ps : List (Str × Str)) (z : Str) : List (Nat × (Str × Str)) × Str := mendN ps (z.length + 1) z
/-- on the way: rs is done, now is the text -/
def OnWay (ps : List (Str × Str)) (z : Str) (rs : List (Nat × (Str × Str))) (now : Str) : Prop := ∃ m, now.length < m ∧ mend ps z = (rs ++ (mendN ps m now).1, (mendN ps m now).2)
theorem way_start (ps : List (Str × Str)) (z : Str) : OnWay ps z [] z := ⟨z.length + 1, Nat.lt_succ_self _, rfl⟩
theorem way_step {y : Str} {ps : List (Str × Str)} {z now : Str} {rs : List (Nat × (Str × Str))} {p : Nat} {k : Str × Str} (hm : Men y ps) (w : OnWay ps z rs now) (h : nextK ps now = some (p, k)) : OnWay ps z (rs ++ [(p, k)]) (bhS now p k) := by
  obtain ⟨m, h1, h2⟩ := w
  have l := next_less hm h
  obtain ⟨m, rfl⟩ : ∃ n, m = n + 1 := ⟨m - 1, by omega⟩
  refine ⟨m, by omega, ?_⟩
  rw [h2, mend_some h, List.append_assoc]
  rfl
theorem way_end {ps : List (Str × Str)} {z now : Str} {rs : List (Nat × (Str × Str))} (w : OnWay ps z rs now) (h : nextK ps now = none) : mend ps z = (rs, now) := by
  obtain ⟨m, h1, h2⟩ := w
  rw [h2, mend_none h, List.append_nil]
theorem mend_fix {ps : List (Str × Str)} {z : Str} (h : nextK ps z = none) : mend ps z = ([], z) := mend_none h _
def rowD (rs : List (Nat × (Str × Str))) : List PyData := rs.map fun r => dD r.1 r.2
theorem imm_rowD (rs : List (Nat × (Str × Str))) : immAll (rowD rs) = true := immAll_of fun d h => by
  obtain ⟨k, _, rfl⟩ := List.mem_map.mp h
  rfl
end K24

set_option maxHeartbeats 4000000
set_option autoImplicit false
/-! what is a mender; the deed done next. -/
namespace K24
open PySem PySem.Spec PyProof.Rows L2 AsSort AsKit AsMax
open Evl (Ex Ev EvT EvA)
open LamX (ExtN TabB)
open NdefX (TabsN NTab NScope nscope_by NF startF)
abbrev sCheckMender : Stmt := top 20
abbrev sNextDeed : Stmt := top 28
abbrev sMendingOf : Stmt := top 29
abbrev sCheckLM : Stmt := top 31
abbrev sMended : Stmt := top 32
section
variable {P : Program} {w : World} {K : PySem.W.Frag} {mg : Str → Option Value} {base : Heap}
abbrev nCheckMender : List Str := ["letters", "mender", "left", "right"]
theorem sc_check_mender : FnScope nCheckMender ["letters", "mender"] (defScope sCheckMender) := ⟨rfl, rfl, rfl, by decide +kernel, rfl, by decide +kernel, by decide +kernel⟩
/-- letters and a mender -/
def OkM (y : Str) (ps : List (Str × Str)) : Prop := PyData.strOk y = true ∧ y.length ≤ 1000 ∧ isLetS y = true ∧ ps.length ≤ 12 ∧ ps.Nodup ∧ Men y ps
abbrev spCheckMender (K : PySem.W.Frag) : Sp := spP K (fun ds => ∃ y ps, ds = [.str y, .tuple (ps.map kD)] ∧ OkM y ps) non1
theorem c_check_mender (D : Df K mg "check_mender" sCheckMender) (hb : Bl mg) (C1 : Cl P w K mg base 5 "check_kinds" (spCheckKinds K) []) : Cl P w K mg base 6 "check_mender" (spCheckMender K) [] := by
  refine cl_of D sc_check_mender (len_sp fun ds ⟨y, ps, h, _⟩ => by rw [h]; rfl) (fun _ _ _ _ _ _ us hl => match us, hl with | [_, _], _ => rfl) fun f cdv A outer s H vs Q E hr h => ?_
  obtain ⟨ds, hd, ⟨y, ps, rfl, o0, o1, o2, o5, o6, o7⟩, q⟩ := h
  obtain ⟨v, v2, rfl, h0, h1⟩ := dp2 hd
  refine ⟨_, pss_cons (ps_expr (C8.pe_c C1 hr (by decide) (by rfl) (pa_cons (pv 0) (pa_cons (pv 1) pa_nil))))
    (pss_one (ps_if (pt_val (pe_anyL (by rfl) hb (pe_lc (own := [("left", 2), ("right", 3)]) (g := gTup K 2 (gCons (gName 2) (gCons (gName 3) gNil))) rfl sc_check_mender.nd (pi_tup (pv 1)) (blkOk_by (N := nCheckMender) (sc := defScope sCheckMender) (own := [("left", 2), ("right", 3)]) (by decide +kernel))
      (fun _ _ _ _ _ => pg_tup rfl (pgs_cons (pg_name (i := 2) sc_check_mender.nd rfl (.inl rfl) (.inr rfl)) (pgs_cons (pg_name (i := 3) sc_check_mender.nd rfl (.inl rfl) (.inr rfl)) pgs_nil))) (fun _ _ _ _ _ => pts_nil) (fun _ _ _ _ _ => pe_cmpR op_le (pe_lenS hb (pv 2)) (pe_lenS hb (pv 3)) (nomark _))))) pss_never pss_nil)), ?_⟩
  have a0 : At K (start nCheckMender [v, v2]) H 0 (.str y) := ⟨_, rfl, h0⟩
  have a1 : At K (start nCheckMender [v, v2]) H 1 (.tuple (ps.map kD)) := ⟨_, rfl, h1⟩
  refine q_exprD (K := K) (d_call (ds_cons (d_var a0) (ds_cons (d_var a1) ds_nil)) ⟨y, _, rfl, tx_kinds fun p hp => ⟨(o7 p hp).1.1, (o7 p hp).1.2.1⟩, lot_ok o5 o6 fun p hp => (o7 p hp).1⟩) fun H1 e1 => ?_
  have tst : EvD K (tCB (rAny K) (tCons (tLc (iTup K (tVar 1)) (gTup K 2 (gCons (gName 2) (gCons (gName 3) gNil))) tYes (tOp (rI0 fun i j => .bl (decide (i ≤ j))) (tCB rLenTx (tCons (tVar 2) tNil)) (tCB rLenTx (tCons (tVar 3) tNil))) [2, 3]) tNil)) (start nCheckMender [v, v2]) H1 (.bool ((ps.map fun p => decide ((p.1.length : Int) ≤ (p.2.length : Int))).any id)) := by
    refine d_any (d_eqTo (d_lcT (fun _ => true) (fun d => .bool (decide (((pairOf d).1.length : Int) ≤ ((pairOf d).2.length : Int)))) (d_var (a1.mono e1)) (by rw [List.length_map]; omega) (fun d hd _ => rfl) fun d hd x H2 e2 hx k hk => ?_) ?_)
    · obtain ⟨p, hp, rfl⟩ := List.mem_map.mp hd
      have l1 := (o7 p hp).1.1
      have l2 := (o7 p hp).1.2.1
      have l1 : (pairOf (kD p)).1.length ≤ 3 := l1
      have l2 : (pairOf (kD p)).2.length ≤ 1 := l2
      exact g_two hx fun va vb ha hb2 => hk _ rfl (fun H3 e3 Q q => q H3 (Ex.refl H3)) fun _ => d_cmpI (g := fun i j => decide (i ≤ j)) (d_lenS (d_var ⟨_, rfl, ha⟩) (by omega)) (d_lenS (d_var ⟨_, rfl, hb2⟩) (by omega))
    · rw [List.filter_eq_self.mpr fun _ _ => rfl, List.map_map, List.map_map]
      rfl
  have hn : (ps.map fun p => decide ((p.1.length : Int) ≤ (p.2.length : Int))).any id = false := by
    rw [List.any_eq_false]
    intro b hb2
    obtain ⟨p, hp, rfl⟩ := List.mem_map.mp hb2
    have := (o7 p hp).2
    simp only [id, decide_eq_true_eq]
    omega
  rw [hn] at tst
  exact Evl.s_if (t_ofB tst) (fun z => by cases z) fun _ H2 e2 => q .non H2 (e1.trans e2) .non
theorem sc_check_lm : FnScope ["letters", "mender"] ["letters", "mender"] (defScope sCheckLM) := ⟨rfl, rfl, rfl, by decide +kernel, rfl, by decide +kernel, by decide +kernel⟩
theorem c_check_lm (D : Df K mg "check_letters_and_mender" sCheckLM) (C1 : Cl P w K mg base 2 "check_letters" (spCheckLetters K) []) (C2 : Cl P w K mg base 6 "check_mender" (spCheckMender K) []) : Cl P w K mg base 7 "check_letters_and_mender" (spCheckMender K) [] := by
  refine cl_of D sc_check_lm (len_sp fun ds ⟨y, ps, h, _⟩ => by rw [h]; rfl) (fun _ _ _ _ _ _ us hl => match us, hl with | [_, _], _ => rfl) fun f cdv A outer s H vs Q E hr h => ?_
  obtain ⟨ds, hd, ⟨y, ps, rfl, o⟩, q⟩ := h
  obtain ⟨v, v2, rfl, h0, h1⟩ := dp2 hd
  refine ⟨_, pss_cons (ps_expr (C8.pe_c C1 hr (by decide) (by rfl) (pa_cons (pv 0) pa_nil))) (pss_one (ps_expr (C8.pe_c C2 hr (by decide) (by rfl) (pa_cons (pv 0) (pa_cons (pv 1) pa_nil))))), ?_⟩
  have a0 : At K (start ["letters", "mender"] [v, v2]) H 0 (.str y) := ⟨_, rfl, h0⟩
  have a1 : At K (start ["letters", "mender"] [v, v2]) H 1 (.tuple (ps.map kD)) := ⟨_, rfl, h1⟩
  refine q_exprD (K := K) (d_call (ds_cons (d_var a0) ds_nil) ⟨.str y, rfl, fun x e => by cases e; have := o.2.1; omega, o.2.2.1⟩) fun H1 e1 => ?_
  exact s_exprD (K := K) (d_call (ds_cons (d_var (a0.mono e1)) (ds_cons (d_var (a1.mono e1)) ds_nil)) ⟨y, ps, rfl, o⟩) fun H2 e2 => q .non H2 (e1.trans e2) .non
/-- the lambda of next_deed -/
def lamNx (st : Stmt) : Expr := match defBody st with
  | .For _ _ (_ :: .If _ (.Assign _ (.Call _ _ (⟨_, e, _⟩ :: _) _) _ :: _) _ _ :: _) _ _ :: _ => e
  | _ => .Constant .none 0 ⟨0, 0, 0, 0⟩
abbrev lamN : Expr := lamNx sNextDeed
abbrev lamQN : Str := "next_deed.<locals>.<lambda>"
def lamFN (c' : Addr) : NF := ⟨"<lambda>", lamQN, lamPar lamN, [], lamScope lamN, [], c'⟩
theorem sc_lamN : NScope ["kind"] ["kind"] [] (lamScope lamN) := nscope_by (by decide +kernel)
def lenD : PyData → PyData
  | .tuple [.str l, .str _] => .int l.length
  | _ => .none
theorem lamN_ok (hb : Bl mg) (f c' : Addr) : AsLam.LOk P w K mg base C8.CX0 1 f (lamFN c') (lamBody lamN) ["kind"] [] (fun _ => spP K preK (one lenD)) := by
  refine AsLam.lok_of sc_lamN (fun pm ctv us hl => match us, hl with | [_], _ => rfl) (fun _ => len_sp fun ds ⟨p, h, _⟩ => by rw [h]; rfl) fun A outer s H vs ws Q E hr hw h => ?_
  obtain ⟨ds, hd, ⟨p, rfl, h1, h2⟩, q⟩ := h
  obtain ⟨v, rfl, h0⟩ := dp1 hd
  obtain rfl := List.eq_nil_of_length_eq_zero hw
  refine ⟨_, pe_lenS hb (pe_ix ix_tup (pv 0) pe_int (fun _ _ => rfl)), ?_⟩
  have c0 : At K (startF ["kind"] [v] []) H 0 (.tuple [.str p.1, .str p.2]) := ⟨_, rfl, h0⟩
  exact d_lenS (d_ixT (i := 0) (d_var c0) (d_int (i := 0)) rfl) (by omega) H (Ex.refl H) Q q
abbrev nNextDeed : List Str := ["mender", "text", "place", "kinds", "kind", "left", "right"]
theorem sc_next_deed : FnScope nNextDeed ["mender", "text"] (defScope sNextDeed) := ⟨rfl, rfl, rfl, by decide +kernel, rfl, by decide +kernel, by decide +kernel⟩
def spNextDeed (K : PySem.W.Frag) (Ts : List NTab) : Sp := fun vs H Q _ => ∃ (v : V) (ps : List (Str × Str)) (z : Str), vs = [v, .str z] ∧ Dp K H v (.tuple (ps.map kD)) ∧ z.length ≤ 400 ∧ ps.length ≤ 60 ∧ (∀ p ∈ ps, p.1.length ≤ 40 ∧ p.2.length ≤ 40) ∧ TabsN Ts H ∧
  ∀ (u : V) (H' : Hp), ExtN H H' → TabsN Ts H' → Dp K H' u (nextD ps z) → Q u H'
theorem find_range {p : Nat → Bool} : ∀ {n i : Nat}, i < n → p i = true → (∀ j, j < i → p j = false) → (List.range n).find? p = some i := fun {n i} h1 h2 h3 => by
  refine List.find?_eq_some_iff_getElem.mpr ⟨h2, i, by rw [List.length_range]; exact h1, by rw [List.getElem_range], fun j hj => ?_⟩
  rw [List.getElem_range, h3 j hj]
  rfl
theorem lens_dp (ks : List (Str × Str)) : ((ks.map kD).map fun d => one lenD [d]) = (lensK ks).map PyData.int := by
  unfold lensK
  rw [List.map_map, List.map_map]
  rfl
theorem c_next_deed {c T : Addr} {Ts : List NTab} (hTs : (T, fun _ _ => lamQN) ∈ Ts) (huT : ∀ p ∈ Ts, p.1 = T → p.2 = fun _ _ => lamQN) (D : Dfc K mg "next_deed" sNextDeed c) (hb : Bl mg) (hmx : mg "max" = none) (TB : TabB base mg c T) : Cl P w K mg base 4 "next_deed" (spNextDeed K Ts) [] := by
  refine cl_ofC D sc_next_deed (fun vs H Q E ⟨v, ps, z, h, _⟩ => by rw [h]; rfl) (fun _ _ _ _ _ _ us hl => match us, hl with | [_, _], _ => rfl) fun f A outer s H vs Q E hr h => ?_
  obtain ⟨v, ps, z, rfl, h0, hz, hp, hps, hT, q⟩ := h
  refine ⟨_, pss_cons (ps_for PassesOwn.never rfl (pi_range1 (by rfl) (hb _ (by decide +kernel)) (pa_cons (pe_lenS hb (pv 1)) pa_nil)) (pg_name (i := 2) sc_next_deed.nd rfl (.inr rfl))
      (pss_cons (ps_setLcn (i := 3) 4 sc_next_deed.nd (pi_tup (pv 0)) (fun _ _ _ _ _ => pts_one (pt_cmpR op_eq (pe_slice sl_str (pv 1) (po_some (pv 2)) (po_some (pe_op op_add (pv 2) (pe_lenS hb (pe_ix (r := rIxT K) ix_tup (pv 4) pe_int (fun _ _ => rfl)))))) (pe_ix (r := rIxT K) ix_tup (pv 4) pe_int (fun _ _ => rfl)) (nomark _))) (fun _ _ _ _ _ => pv 4) (fun _ _ _ _ _ => pg_name sc_next_deed.nd rfl (.inl rfl)) (blkOk_by (N := nNextDeed) (sc := defScope sNextDeed) (own := [("kind", 4)]) (by decide +kernel)) rfl rfl rfl (sw_true rfl rfl rfl (by decide +kernel)))
      (pss_one (ps_if (pt_cmpR op_gt (pe_lenQ hb (pv 3)) pe_int (nomark _))
        (pss_cons (ps_asg (pe_callBK (cr_maxLam (mk := lamFN) (e := lamBody lamN) (fun f c' => lamN_ok hb f c') (hr.mono (by decide)) (fun _ => rfl) (fun _ => rfl)) (by rfl) hmx (by decide +kernel) (pa_cons (pv 3) pa_nil)
            (pk_cons (AsLam.pe_lam (T := Ts) (nm := fun _ _ => lamQN) TB rfl hTs rfl huT (fun y hy e => nomatch (sc_lamN.free y hy e))) pk_nil)) (pg_tup rfl (pgs_cons (pg_name (i := 5) sc_next_deed.nd rfl (.inl rfl)) (pgs_cons (pg_name (i := 6) sc_next_deed.nd rfl (.inl rfl)) pgs_nil))))
        (pss_one (ps_ret (pe_tup (pa_cons (pv 2) (pa_cons (pv 5) (pa_cons (pv 6) pa_nil))))))) pss_nil))))
    (pss_one (ps_ret pe_non)), ?_⟩
  have hz2 : z.cps.toList.length = z.length := Array.length_toList
  have a1 : ∀ (x2 x3 x4 x5 x6 : Option V) (H' : Hp), At K [some v, some (.str z), x2, x3, x4, x5, x6] H' 1 (.str z) := fun _ _ _ _ _ _ => ⟨_, rfl, .str z⟩
  refine Evl.q_forR1 (n := (z.length : Int)) (ds_ev (K := K) (ds_cons (d_lenS (d_var (a1 _ _ _ _ _ _)) (by omega)) ds_nil)) (by omega)
    (fun i σ' H' => ∃ x2 x3 x4 x5 x6, σ' = [some v, some (.str z), x2, x3, x4, x5, x6] ∧ Ex H H' ∧ ∀ j, j < i → fitsAt ps z j = [])
    (fun H1 e1 => ⟨_, _, _, _, _, rfl, e1, fun j hj => absurd hj (Nat.not_lt_zero _)⟩) (fun i σ' H' hi hW => ?_) fun σ' H' hW => ?_
  · obtain ⟨x2, x3, x4, x5, x6, rfl, eN, hno⟩ := hW
    have hi2 : i < z.length := by omega
    have hv : Dp K H' v (.tuple (ps.map kD)) := dp_ex eN h0
    refine AsKit.q_asg (K := K) (d_eqTo (d_lcT (fun d => decide (cutS z (some (i : Int)) (some ((i + (pairOf d).1.length : Nat) : Int)) = (pairOf d).1)) id (d_var ⟨_, rfl, hv⟩) (by rw [List.length_map]; omega) (fun d hd _ => ?_) fun d hd x H2 e2 hx k hk => hk _ rfl (t_ofD (K := K) ?_) fun _ => d_var ⟨_, rfl, hx⟩)
      (congrArg PyData.list (show (((ps.map kD).filter _).map id) = (fitsAt ps z i).map kD from ?_))) fun v3 H1 e1 h3 => ?_
    · obtain ⟨p, _, rfl⟩ := List.mem_map.mp hd
      rfl
    · obtain ⟨p, hp1, rfl⟩ := List.mem_map.mp hd
      have l1 := (hps p hp1).1
      have l2 := d_ixT (i := 0) (ds := [.str p.1, .str p.2]) (d := .str p.1) (d_var (K := K) (σ := (wipe [some v, some (.str z), some (.int (i : Int)), x3, x4, x5, x6] [4]).set 4 (some x)) (H := H2) (i := 4) ⟨_, rfl, hx⟩) (d_int (i := 0)) rfl
      exact d_eqS (d_slS (d_var ⟨_, rfl, .str z⟩) (p_some (d_var ⟨_, rfl, .int _⟩)) (p_some (d_eqTo (d_arI (g := fun i j => i + j) (d_var ⟨_, rfl, .int _⟩) (d_lenS l2 (by omega))) (show PyData.int ((i : Int) + (p.1.length : Int)) = .int ((i + p.1.length : Nat) : Int) by rw [Int.natCast_add]))) (by omega)) l2
    · rw [List.map_id, List.filter_map]
      exact congrArg (List.map kD) (List.filter_congr fun p _ => hit_cut z i p)
    · cases h3 with
      | lst hq hx =>
        rename_i l3 xs3
        have d3 : Dp K H1 (.ref l3) (.list ((fitsAt ps z i).map kD)) := .lst hq hx
        have hfl : (fitsAt ps z i).length ≤ ps.length := List.length_filter_le _ _
        refine Evl.s_if (b := decide ((0 : Int) < (((fitsAt ps z i).map kD).length : Int))) (t_ofD (K := K) (d_cmpI (g := fun i j => decide (j < i)) (d_lenL (d_var ⟨_, rfl, d3⟩)) d_int)) (fun hb1 H2 e2 => ?_) fun hb1 H2 e2 => ?_
        · have hpos : 0 < (fitsAt ps z i).length := by
            have := of_decide_eq_true hb1
            rw [List.length_map] at this
            omega
          have hT2 : TabsN Ts H2 := ((hT.ext eN).ext e1).ext e2
          refine ⟨.ref l3, rfl, hT2, fun fl cl G n1 _ t3 _ n5 n6 => ?_⟩
          have d4 : Dp K G (.ref l3) (.list ((fitsAt ps z i).map kD)) := dp_extN n1 (dp_ex e2 d3)
          cases d4 with
          | lst hq4 hx4 =>
            refine ⟨l3, fl, cl, _, _, lensK (fitsAt ps z i), rfl, rfl, n5, n6, hq4, hx4, fun d hd => ?_, lens_dp _, by rw [List.length_map]; exact hpos, fun x d G2 hdx e3 hdp => ?_⟩
            · obtain ⟨p, hp1, rfl⟩ := List.mem_map.mp hd
              have z1 := hps p (List.mem_filter.mp hp1).1
              exact ⟨p, rfl, by omega, by omega⟩
            · rw [List.length_map, List.getElem?_map, show (fitsAt ps z i)[argBest (btI (lensK (fitsAt ps z i))) ((fitsAt ps z i).length - 1)]? = some (bestK (fitsAt ps z i)) from bestK_at hpos] at hdx
              have hdx := Option.some.inj hdx
              subst hdx
              refine g_two (K := K) (a := .str (bestK (fitsAt ps z i)).1) (b := .str (bestK (fitsAt ps z i)).2) hdp fun va vb ha hb2 => ?_
              refine AsKit.s_ret (K := K) (d_tup (ds_cons (d_var ⟨_, rfl, .int _⟩) (ds_cons (d_var ⟨_, rfl, ha⟩) (ds_cons (d_var ⟨_, rfl, hb2⟩) ds_nil))) (by show 3 ≤ 100000; decide)) fun u H5 e5 hu => ?_
              have xN : ExtN H H5 := (extN_ex eN).trans ((extN_ex e1).trans ((extN_ex e2).trans (n1.trans ((extN_ex e3).trans (extN_ex e5)))))
              refine q u H5 xN ((t3.ext e3).ext e5) ?_
              have pl : placeOf ps z = some i := by
                refine find_range hi2 (decide_eq_true (List.length_pos_iff.mp hpos)) fun j hj => ?_
                exact decide_eq_false fun hn => hn (hno j hj)
              unfold nextD nextK
              rw [pl]
              exact hu
        · refine ⟨_, _, _, _, _, rfl, (eN.trans e1).trans e2, fun j hj => ?_⟩
          rcases Nat.lt_or_eq_of_le (Nat.le_of_lt_succ hj) with hj | rfl
          · exact hno j hj
          · have := of_decide_eq_false hb1
            rw [List.length_map] at this
            exact List.length_eq_zero_iff.mp (by omega)
  · obtain ⟨x2, x3, x4, x5, x6, rfl, eN, hno⟩ := hW
    have en : ((z.length : Int)).toNat = z.length := by omega
    rw [en] at hno
    refine q .non H' (extN_ex eN) (hT.ext eN) ?_
    have pl : placeOf ps z = none := by
      refine List.find?_eq_none.mpr fun j hj => ?_
      have := hno j (List.mem_range.mp hj)
      rw [decide_eq_true_eq]
      exact fun hn => hn this
    unfold nextD nextK
    rw [pl]
    exact .non
end
end K24

set_option maxHeartbeats 4000000
set_option autoImplicit false
/-! mended, mending. -/
namespace K24
open PySem PySem.Spec PyProof.Rows L2 AsSort AsKit AsMax
open Evl (Ex Ev EvT EvA)
open LamX (ExtN TabB)
open NdefX (TabsN NTab NScope nscope_by NF startF)
section
variable {P : Program} {w : World} {K : PySem.W.Frag} {mg : Str → Option Value} {base : Heap}
theorem tabs_lst {Ts : List NTab} {H : Hp} {l : Addr} {xs : List V} {o : HO} (h : H l = some (.lst xs)) (t : TabsN Ts H) : TabsN Ts (upd H l o) := fun p hp => by
  obtain ⟨ps, t1, t2, t3⟩ := t p hp
  refine ⟨ps, (upd_ne (fun z => by rw [z, h] at t1; cases t1)).trans t1, t2, fun pos cv hc => ?_⟩
  obtain ⟨c, e1, e2⟩ := t3 pos cv hc
  refine ⟨c, e1, (upd_ne (fun z => ?_)).trans e2⟩
  rw [z, h] at e2
  have e3 := Option.some.inj e2
  unfold LamX.CodeO at e3
  cases e3
theorem extN_mut {H H' : Hp} {l : Addr} {o : HO} (e : ExtN H H') (n : H l = none) : ExtN H (upd H' l o) := fun b u hb nt => (upd_ne (fun z => by rw [z, n] at hb; cases hb)).trans (e b u hb nt)
theorem imm_nextD (ps : List (Str × Str)) (z : Str) : imm (nextD ps z) = true := by
  unfold nextD
  cases nextK ps z with
  | none => rfl
  | some q => rfl
abbrev nMendingOf : List Str := ["mender", "text", "row", "now", "deed"]
theorem sc_mending_of : FnScope nMendingOf ["mender", "text"] (defScope sMendingOf) := ⟨rfl, rfl, rfl, by decide +kernel, rfl, by decide +kernel, by decide +kernel⟩
def spMendingOf (K : PySem.W.Frag) (Ts : List NTab) : Sp := fun vs H Q _ => ∃ (v : V) (y : Str) (ps : List (Str × Str)) (z : Str), vs = [v, .str z] ∧ Dp K H v (.tuple (ps.map kD)) ∧ z.length ≤ 400 ∧ ps.length ≤ 60 ∧ Men y ps ∧ TabsN Ts H ∧
  ∀ (u : V) (H' : Hp), ExtN H H' → TabsN Ts H' → Dp K H' u (.tuple [.tuple (rowD (mend ps z).1), .str (mend ps z).2]) → Q u H'
/-- on the way, as the program holds it -/
def MoI (K : PySem.W.Frag) (Ts : List NTab) (H : Hp) (v : V) (z : Str) (ps : List (Str × Str)) (l : Addr) (m : Nat) (σ' : L2.St) (H' : Hp) : Prop := ∃ (now : Str) (rs : List (Nat × (Str × Str))) (acc : List V) (u : V), σ' = [some v, some (.str z), some (.ref l), some (.str now), some u] ∧ m = now.length ∧ now.length ≤ z.length ∧ ExtN H H' ∧ TabsN Ts H' ∧ H' l = some (.lst acc) ∧ DpAll K H' acc (rowD rs) ∧ Dp K H' u (nextD ps now) ∧ OnWay ps z rs now ∧ rs.length + now.length ≤ z.length
theorem c_mending_of {Ts : List NTab} (D : Df K mg "mending_of" sMendingOf) (hb : Bl mg) (C1 : Cl P w K mg base 4 "next_deed" (spNextDeed K Ts) []) (C2 : Cl P w K mg base 1 "text_behind" (spTextBehind K) []) : Cl P w K mg base 5 "mending_of" (spMendingOf K Ts) [] := by
  refine cl_of D sc_mending_of (fun vs H Q E ⟨v, y, ps, z, h, _⟩ => by rw [h]; rfl) (fun _ _ _ _ _ _ us hl => match us, hl with | [_, _], _ => rfl) fun f cdv A outer s H vs Q E hr h => ?_
  obtain ⟨v, y, ps, z, rfl, h0, hz, hp, hm, hT, q⟩ := h
  refine ⟨_, pss_cons (ps_set (i := 2) sc_mending_of.nd rfl (.inl rfl) (pe_lst pa_nil))
    (pss_cons (ps_set (i := 3) sc_mending_of.nd rfl (.inl rfl) (pv 1))
    (pss_cons (ps_set (i := 4) sc_mending_of.nd rfl (.inl rfl) (C8.pe_c C1 hr (by decide) (by rfl) (pa_cons (pv 0) (pa_cons (pv 3) pa_nil))))
    (pss_cons (ps_while PassesOwn.never (pt_cmp (pc_notN (pv 4)))
      (pss_cons (ps_expr (pe_bm PySem.F.plainAttrs_list PySem.F.slot_list_append PySem.F.type_list_append mt_append (pv 2) (pa_cons (pv 4) pa_nil)))
      (pss_cons (ps_set (i := 3) sc_mending_of.nd rfl (.inl rfl) (C8.pe_c C2 hr (by decide) (by rfl) (pa_cons (pv 3) (pa_cons (pv 4) pa_nil))))
      (pss_one (ps_set (i := 4) sc_mending_of.nd rfl (.inl rfl) (C8.pe_c C1 hr (by decide) (by rfl) (pa_cons (pv 0) (pa_cons (pv 3) pa_nil))))))))
    (pss_one (ps_ret (pe_tup (pa_cons (pe_tupQ hb (pv 2)) (pa_cons (pv 3) pa_nil)))))))), ?_⟩
  have lens : ∀ p ∈ ps, p.1.length ≤ 40 ∧ p.2.length ≤ 40 := fun p hp => by
    have := (hm p hp).1
    exact ⟨by have := this.1; omega, by have := this.2.1; omega⟩
  refine ⟨Evl.sz_of (Nat.zero_le _), fun l nl => ?_⟩
  refine ⟨.str z, rfl, v, rfl, .str z, rfl, v, ps, z, rfl, dp_ex (Ex.new nl) h0, hz, hp, lens, hT.ext (Ex.new nl), fun u H1 e1 t1 hu => ?_⟩
  have e01 : ExtN H H1 := (extN_ex (Ex.new nl)).trans e1
  have hl1 : H1 l = some (.lst []) := e1 _ _ upd_same (fun ps z => nomatch z)
  refine Evl.q_while (MoI K Ts H v z ps l)
    z.length ⟨z, [], [], u, rfl, rfl, Nat.le_refl _, e01, t1, hl1, .nil, hu, way_start ps z, by simp⟩ fun m σ' H' hw => ?_
  obtain ⟨now, rs, acc, u, rfl, rfl, hn, eN, tN, hl, hacc, hu, hway, hrs⟩ := hw
  have hv : Dp K H' v (.tuple (ps.map kD)) := dp_extN eN h0
  cases hk : nextK ps now with
  | none =>
    have ed : nextD ps now = .none := by unfold nextD; rw [hk]
    rw [ed] at hu
    cases hu
    refine ⟨false, fun H1 a Q q => ⟨.non, rfl, false, by simp, q H1 (Ex.refl _)⟩, (fun z => nomatch z), fun _ H2 e2 => ?_⟩
    have a2 : At K [some v, some (.str z), some (.ref l), some (.str now), some .non] H2 2 (.list (rowD rs)) := ⟨_, rfl, .lst (Evl.sq_of (e2 _ _ hl)) (dpAll_ex e2 hacc)⟩
    refine AsKit.s_ret (K := K) (d_tup (ds_cons (d_tupOf (d_var a2)) (ds_cons (d_var (i := 3) ⟨_, rfl, .str now⟩) ds_nil)) (by show 2 ≤ 100000; decide)) fun r H3 e3 hr3 => ?_
    refine q r H3 (eN.trans ((extN_ex e2).trans (extN_ex e3))) ((tN.ext e2).ext e3) ?_
    rw [way_end hway hk]
    exact hr3
  | some pk =>
    obtain ⟨p, k⟩ := pk
    have ed : nextD ps now = dD p k := by unfold nextD; rw [hk]
    rw [ed] at hu
    obtain ⟨f1, f2, f3, f4, f5, f6⟩ := next_fit hk
    have hless := next_less hm hk
    have hl12 := lens k f2
    have hu' := hu
    unfold dD at hu'
    cases hu' with
    | tup hs hx =>
      rename_i a xs
      refine ⟨true, fun H1 e Q q => ⟨.ref a, rfl, true, by simp, q H1 (Ex.refl _)⟩, fun _ H1 e1 => ?_, (fun z => nomatch z)⟩
      have hl' : H1 l = some (.lst acc) := e1 _ _ hl
      have acn : acc.length ≤ 400 := by
        rw [dpAll_len hacc]
        unfold rowD
        rw [List.length_map]
        omega
      refine ⟨fun σ2 H2 => ∃ m', m' < now.length ∧ MoI K Ts H v z ps l m' σ2 H2, fun _ _ h => h, .ref l, rfl, .inl ⟨rfl, acc, Evl.sq_of hl'⟩, .ref a, rfl, l, acc, .ref a, rfl, rfl, hl', Evl.sz_lt (by omega), ?_⟩
      have ex1 : ExtN H (upd H1 l (.lst (acc ++ [.ref a]))) := extN_mut (eN.trans (extN_ex e1)) nl
      have hacc2 : DpAll K (upd H1 l (.lst (acc ++ [.ref a]))) (acc ++ [.ref a]) (rowD (rs ++ [(p, k)])) := by
        unfold rowD
        rw [List.map_append]
        exact dpAll_snoc (dp_tu (tu_lst hl') rfl (dp_ex e1 hu)) (dpAll_tu (tu_lst hl') (imm_rowD rs) (dpAll_ex e1 hacc))
      have hu2 : Dp K (upd H1 l (.lst (acc ++ [.ref a]))) (.ref a) (dD p k) := dp_tu (tu_lst hl') rfl (dp_ex e1 hu)
      have t2 : TabsN Ts (upd H1 l (.lst (acc ++ [.ref a]))) := tabs_lst hl' (tN.ext e1)
      refine AsKit.q_asg (K := K) (d_call (ds_cons (d_var (i := 3) ⟨_, rfl, .str now⟩) (ds_cons (d_var (i := 4) ⟨_, rfl, hu2⟩) ds_nil)) ⟨now, p, k, rfl, by omega, hl12.1, hl12.2⟩) fun v3 H3 e3 h3 => ?_
      cases h3
      have x3 : ExtN H H3 := ex1.trans (extN_ex e3)
      refine ⟨v, rfl, .str _, rfl, v, ps, bhS now p k, rfl, dp_extN x3 h0, by omega, hp, lens, t2.ext e3, fun u4 H4 e4 t4 hu4 => ?_⟩
      exact ⟨(bhS now p k).length, hless, bhS now p k, rs ++ [(p, k)], acc ++ [.ref a], u4, rfl, rfl, by omega, x3.trans e4, t4, e4 _ _ (e3 _ _ upd_same) (fun ps z => nomatch z), dpAll_extN e4 (dpAll_ex e3 hacc2), hu4, way_step hm hway hk, by rw [List.length_append]; show rs.length + 1 + _ ≤ _; omega⟩
abbrev nMended : List Str := ["letters", "mender", "text", "_", "end"]
theorem sc_mended : FnScope nMended ["letters", "mender", "text"] (defScope sMended) := ⟨rfl, rfl, rfl, by decide +kernel, rfl, by decide +kernel, by decide +kernel⟩
abbrev nMending : List Str := ["letters", "mender", "text", "row", "_"]
def spMend (K : PySem.W.Frag) (Ts : List NTab) (g : List (Nat × (Str × Str)) × Str → PyData) : Sp := fun vs H Q _ => ∃ (v : V) (y : Str) (ps : List (Str × Str)) (z : Str), vs = [.str y, v, .str z] ∧ Dp K H v (.tuple (ps.map kD)) ∧ OkM y ps ∧ z.length ≤ 40 ∧ allIn y z = true ∧ TabsN Ts H ∧
  ∀ (u : V) (H' : Hp), ExtN H H' → TabsN Ts H' → Dp K H' u (g (mend ps z)) → Q u H'
abbrev endD (r : List (Nat × (Str × Str)) × Str) : PyData := .str r.2
abbrev rowDD (r : List (Nat × (Str × Str)) × Str) : PyData := .tuple (rowD r.1)
theorem c_mended {Ts : List NTab} (D : Df K mg "mended" sMended) (C1 : Cl P w K mg base 7 "check_letters_and_mender" (spCheckMender K) []) (C2 : Cl P w K mg base 3 "check_text" (spCheckText K) []) (C3 : Cl P w K mg base 5 "mending_of" (spMendingOf K Ts) []) : Cl P w K mg base 8 "mended" (spMend K Ts endD) [] := by
  refine cl_of D sc_mended (fun vs H Q E ⟨v, y, ps, z, h, _⟩ => by rw [h]; rfl) (fun _ _ _ _ _ _ us hl => match us, hl with | [_, _, _], _ => rfl) fun f cdv A outer s H vs Q E hr h => ?_
  obtain ⟨v, y, ps, z, rfl, h0, ok, hz, hin, hT, q⟩ := h
  refine ⟨_, pss_cons (ps_expr (C8.pe_c C1 hr (by decide) (by rfl) (pa_cons (pv 0) (pa_cons (pv 1) pa_nil))))
    (pss_cons (ps_expr (C8.pe_c C2 hr (by decide) (by rfl) (pa_cons (pv 0) (pa_cons (pv 2) pa_nil))))
    (pss_cons (ps_asg (C8.pe_c C3 hr (by decide) (by rfl) (pa_cons (pv 1) (pa_cons (pv 2) pa_nil))) (pg_tup rfl (pgs_cons (pg_name (i := 3) sc_mended.nd rfl (.inl rfl)) (pgs_cons (pg_name (i := 4) sc_mended.nd rfl (.inl rfl)) pgs_nil))))
    (pss_one (ps_ret (pv 4))))), ?_⟩
  have a0 : At K (start nMended [.str y, v, .str z]) H 0 (.str y) := ⟨_, rfl, .str y⟩
  have a1 : At K (start nMended [.str y, v, .str z]) H 1 (.tuple (ps.map kD)) := ⟨_, rfl, h0⟩
  have a2 : At K (start nMended [.str y, v, .str z]) H 2 (.str z) := ⟨_, rfl, .str z⟩
  refine q_exprD (K := K) (d_call (ds_cons (d_var a0) (ds_cons (d_var a1) ds_nil)) ⟨y, ps, rfl, ok⟩) fun H1 e1 => ?_
  refine q_exprD (K := K) (d_call (ds_cons (d_var (a0.mono e1)) (ds_cons (d_var (a2.mono e1)) ds_nil)) ⟨y, .str z, rfl, fun x e => by cases e; omega, ?_⟩) fun H2 e2 => ?_
  · show withinS y z 40 = true
    unfold withinS
    rw [hin, decide_eq_true (by omega : (z.length : Int) ≤ 40)]
    rfl
  refine ⟨v, rfl, .str z, rfl, v, y, ps, z, rfl, dp_ex (e1.trans e2) h0, by omega, by have := ok.2.2.2.1; omega, ok.2.2.2.2.2, (hT.ext e1).ext e2, fun u H3 e3 t3 hu => ?_⟩
  refine g_two (K := K) hu fun va vb ha hb2 => ?_
  refine ⟨vb, rfl, q vb H3 ((extN_ex (e1.trans e2)).trans e3) t3 hb2⟩
end
end K24

set_option maxHeartbeats 4000000
set_option autoImplicit false
namespace K24
open PySem PySem.Spec PyProof.Rows L2 AsSort AsKit
open Evl (Ex Ev EvT EvA)
open LamX (ExtN TabB)
open NdefX (TabsN NTab NScope nscope_by NF startF)
section
variable {P : Program} {w : World} {K : PySem.W.Frag} {mg : Str → Option Value} {base : Heap}
theorem kinds_filter (f : PyData → Bool) (g : Str × Str → Bool) (h : ∀ p, f (kD p) = g p) (ps : List (Str × Str)) : (((ps.map kD).filter f).map id) = (ps.filter g).map kD := by
  rw [List.map_id, List.filter_map]
  exact congrArg (List.map kD) (List.filter_congr fun p _ => h p)
abbrev nDeedsL : List Str := ["kinds", "text", "found", "place", "here", "kind", "l", "r"]
theorem sc_deedsL : FnScope nDeedsL ["kinds", "text"] (defScope sDeedsL) := ⟨rfl, rfl, rfl, by decide +kernel, rfl, by decide +kernel, by decide +kernel⟩
def lamTab (T : Addr) : List NTab := [(T, fun _ _ => lamQ)]
def spDeedsL (K : PySem.W.Frag) (Ts : List NTab) : Sp := fun vs H Q _ => ∃ (v : V) (ps : List (Str × Str)) (z : Str), vs = [v, .str z] ∧ Dp K H v (.tuple (ps.map kD)) ∧ z.length ≤ 400 ∧ ps.length ≤ 60 ∧ (∀ p ∈ ps, p.1.length ≤ 40 ∧ p.2.length ≤ 40) ∧ TabsN Ts H ∧
  ∀ (l : Addr) (acc : List V) (H' : Hp), ExtN H H' → TabsN Ts H' → H' l = some (.lst acc) → DpAll K H' acc (deedsL ps z) → Q (.ref l) H'
theorem c_deedsL {c T : Addr} {Ts : List NTab} (hTs : (T, fun _ _ => lamQ) ∈ Ts) (huT : ∀ p ∈ Ts, p.1 = T → p.2 = fun _ _ => lamQ) (D : Dfc K mg "_law_deeds" sDeedsL c) (hb : Bl mg) (TB : TabB base mg c T) : Cl P w K mg base 5 "_law_deeds" (spDeedsL K Ts) [] := by
  refine cl_ofC D sc_deedsL (fun vs H Q E ⟨v, ps, z, h, _⟩ => by rw [h]; rfl) (fun _ _ _ _ _ _ us hl => match us, hl with | [_, _], _ => rfl) fun f A outer s H vs Q E hr h => ?_
  obtain ⟨v, ps, z, rfl, h0, hz, hp, hps, hT, q⟩ := h
  refine ⟨_, pss_cons (ps_set (i := 2) sc_deedsL.nd rfl (.inl rfl) (pe_lst pa_nil))
    (pss_cons (ps_for PassesOwn.never rfl (pi_range1 (by rfl) (hb _ (by decide +kernel)) (pa_cons (pe_op op_add (pe_lenS hb (pv 1)) pe_int) pa_nil)) (pg_name (i := 3) sc_deedsL.nd rfl (.inr rfl))
      (pss_cons (ps_setLcn (i := 4) 5 sc_deedsL.nd (pi_tup (pv 0)) (fun _ _ _ _ _ => pts_one (pt_val (pe_m1 PySem.F.slot_str_startswith PySem.F.type_str_startswith mt_startswith (pe_slice sl_str (pv 1) (po_some (pv 3)) po_none) (pe_ix (r := rIxT K) ix_tup (pv 5) pe_int (fun _ _ => rfl))))) (fun _ _ _ _ _ => pv 5) (fun _ _ _ _ _ => pg_name sc_deedsL.nd rfl (.inl rfl)) (blkOk_by (N := nDeedsL) (sc := defScope sDeedsL) (own := [("kind", 5)]) (by decide +kernel)) rfl rfl rfl (sw_true rfl rfl rfl (by decide +kernel)))
      (pss_cons (ps_set (i := 4) sc_deedsL.nd rfl (.inl rfl) (pe_callBK (AsLam.cr_sortLam (mk := lamF) (e := lamBody lamE) (fun f c' => lam_ok hb f c') (hr.mono (by decide)) (fun _ => rfl) (fun _ => rfl)) (by rfl) (hb _ (by decide +kernel)) (by decide +kernel) (pa_cons (pv 4) pa_nil)
          (pk_cons (AsLam.pe_lam (T := Ts) (nm := fun _ _ => lamQ) TB rfl hTs rfl huT (fun y hy e => nomatch (sc_lam.free y hy e))) pk_nil)))
      (pss_one (ps_set (i := 2) sc_deedsL.nd rfl (.inl rfl) (pe_op op_cat (pv 2) (pe_lc (own := [("l", 6), ("r", 7)]) (g := gTup K 2 (gCons (gName 6) (gCons (gName 7) gNil))) rfl sc_deedsL.nd (pi_list (pv 4)) (blkOk_by (N := nDeedsL) (sc := defScope sDeedsL) (own := [("l", 6), ("r", 7)]) (by decide +kernel))
          (fun _ _ _ _ _ => pg_tup rfl (pgs_cons (pg_name (i := 6) sc_deedsL.nd rfl (.inl rfl) (.inr rfl)) (pgs_cons (pg_name (i := 7) sc_deedsL.nd rfl (.inl rfl) (.inr rfl)) pgs_nil))) (fun _ _ _ _ _ => pts_nil) (fun _ _ _ _ _ => pe_tup (pa_cons (pv 3) (pa_cons (pv 6) (pa_cons (pv 7) pa_nil)))))))))))
    (pss_one (ps_ret (pv 2)))), ?_⟩
  refine ⟨Evl.sz_of (Nat.zero_le _), fun l nl => ?_⟩
  have hos := sortO_len ps
  have hz2 : z.cps.toList.length = z.length := Array.length_toList
  have a1 : ∀ (x2 x3 x4 x5 x6 x7 : Option V) (H' : Hp), At K [some v, some (.str z), x2, x3, x4, x5, x6, x7] H' 1 (.str z) := fun _ _ _ _ _ _ _ => ⟨_, rfl, .str z⟩
  refine Evl.q_forR1 (n := (z.length : Int) + 1) (ds_ev (K := K) (ds_cons (d_arI (g := fun i j => i + j) (d_lenS (d_var (a1 _ _ _ _ _ _ _)) (by omega)) d_int) ds_nil)) (by omega)
    (fun i σ' H' => ∃ l acc x3 x4 x5 x6 x7, σ' = [some v, some (.str z), some (.ref l), x3, x4, x5, x6, x7] ∧ ExtN H H' ∧ TabsN Ts H' ∧ H' l = some (.lst acc) ∧ DpAll K H' acc (hitsTo (sortO ps) z i))
    (fun H1 e1 => ⟨l, [], _, _, _, _, _, rfl, (extN_ex (Ex.new nl)).trans (extN_ex e1), (hT.ext (Ex.new nl)).ext e1, e1 _ _ upd_same, .nil⟩) (fun i σ' H' hi hW => ?_) fun σ' H' hW => ?_
  · obtain ⟨l, acc, x3, x4, x5, x6, x7, rfl, eN, hT1, hl, hacc⟩ := hW
    have hi2 : i ≤ z.length := by omega
    have hv : Dp K H' v (.tuple (ps.map kD)) := dp_extN eN h0
    refine AsKit.q_asg (K := K) (d_eqTo (d_lcT (fun d => Txt.startswith (cutS z (some (i : Int)) none) (pairOf d).1) id (d_var ⟨_, rfl, hv⟩) (by rw [List.length_map]; omega) (fun d hd _ => ?_) fun d hd x H2 e2 hx k hk => hk _ rfl (t_ofB (K := K) ?_) fun _ => d_var ⟨_, rfl, hx⟩)
      (congrArg PyData.list (kinds_filter _ (hitB z i) (fun p => hit_starts z i p) ps))) fun v4 H1 e1 h4 => ?_
    · obtain ⟨p, _, rfl⟩ := List.mem_map.mp hd
      rfl
    · obtain ⟨p, hp1, rfl⟩ := List.mem_map.mp hd
      exact d_sw (d_slS (d_var ⟨_, rfl, .str z⟩) (p_some (d_var ⟨_, rfl, .int _⟩)) p_none (by omega)) (d_ixT (d_var ⟨_, rfl, hx⟩) d_int rfl)
    -- sorted
    refine ⟨v4, rfl, hT1.ext e1, fun fl cl G n1 _ t3 _ n5 n6 => ?_⟩
    have h4G := dp_extN n1 h4
    cases h4G with
    | lst hq hx =>
      have hfl : (ps.filter (hitB z i)).length ≤ ps.length := List.length_filter_le _ _
      refine ⟨_, fl, cl, _, _, rfl, rfl, n5, n6, .inl hq, hx, fun d hd => ?_, fun d hd d' hd' => ?_, .inl fun d hd => ?_, ?_, fun d hd => ?_, fun p ys G2 np e2 hp2 hys => ?_⟩
      · obtain ⟨p, hp1, rfl⟩ := List.mem_map.mp hd
        have z1 := hps p (List.mem_filter.mp hp1).1
        exact ⟨p, rfl, by omega, by omega⟩
      · obtain ⟨x, hx, rfl⟩ := List.mem_map.mp hd
        obtain ⟨y, hy, rfl⟩ := List.mem_map.mp hd'
        exact fK_alike _ _
      · obtain ⟨x, hx, rfl⟩ := List.mem_map.mp hd
        exact ⟨_, _, rfl⟩
      · refine immAll_of fun d hd => ?_
        obtain ⟨x, hx, rfl⟩ := List.mem_map.mp hd
        rfl
      · obtain ⟨x, hx, rfl⟩ := List.mem_map.mp hd
        show (fK (pairOf (kD x))).depth ≤ 50
        simp [fK, PyData.depth, PyData.depthAll]
      rw [sortD_flat, ← sortO_filter] at hys
      have hl2 : G2 l = some (.lst acc) := e2 _ _ (n1 _ _ (e1 _ _ hl) fun _ z => nomatch z)
      have hacc2 : DpAll K G2 acc (hitsTo (sortO ps) z i) := dpAll_ex e2 (dpAll_extN n1 (dpAll_ex e1 hacc))
      have eN2 : ExtN H G2 := eN.trans ((extN_ex e1).trans (n1.trans (extN_ex e2)))
      have l1 := hitsTo_len (sortO ps) z i
      have l4 : i * (sortO ps).length ≤ 400 * 60 := Nat.mul_le_mul (by omega) (by omega)
      have l5 : ((sortO ps).filter (hitB z i)).length ≤ (sortO ps).length := List.length_filter_le _ _
      refine ⟨.ref l, rfl, ?_⟩
      refine e_lcL (K := K) (H := G2) (ds := ((sortO ps).filter (hitB z i)).map kD) (fun _ => true) (fun d => dD i (pairOf d)) (d_var ⟨_, rfl, .lst (Evl.sq_of hp2) hys⟩) (by rw [List.length_map]; omega) (fun d hd _ => ?_) (fun d hd x H3 e3 hx k hk => ?_) G2 (Ex.refl G2) _ fun p2 acc2 H3 np2 e3 hp3 hd3 => ?_
      · rfl
      · obtain ⟨kk, hkk, rfl⟩ := List.mem_map.mp hd
        exact g_two hx fun va vb ha hb2 => hk _ rfl (fun H3 e3 Q q => q H3 (Ex.refl H3)) fun _ => d_tup (ds_cons (d_var ⟨_, rfl, .int _⟩) (ds_cons (d_var ⟨_, rfl, ha⟩) (ds_cons (d_var ⟨_, rfl, hb2⟩) ds_nil))) (by show 3 ≤ 100000; decide)
      · have ed : ((((sortO ps).filter (hitB z i)).map kD).filter fun _ => true).map (fun d => dD i (pairOf d)) = hits (sortO ps) z i := by
          rw [List.filter_eq_self.mpr fun _ _ => rfl, List.map_map]
          rfl
        rw [ed] at hd3
        have l6 := hits_len (sortO ps) z i
        refine ⟨l, p2, acc, acc2, rfl, rfl, e3 _ _ hl2, hp3, Evl.sz_of (by rw [dpAll_len hacc2, dpAll_len hd3]; omega), fun pn npn => ?_⟩
        refine ⟨pn, acc ++ acc2, _, _, _, _, _, rfl, eN2.trans ((extN_ex e3).trans (extN_ex (Ex.new npn))), (((t3.ext e2).ext e3).ext (Ex.new npn)), upd_same, ?_⟩
        rw [hitsTo_succ]
        have app : ∀ {xs ys : List V} {ds es : List PyData}, DpAll K (upd H3 pn (.lst (acc ++ acc2))) xs ds → DpAll K (upd H3 pn (.lst (acc ++ acc2))) ys es → DpAll K (upd H3 pn (.lst (acc ++ acc2))) (xs ++ ys) (ds ++ es) := by
          intro xs
          induction xs with
          | nil =>
            intro ys ds es h1 h2
            cases h1
            exact h2
          | cons x xs ih =>
            intro ys ds es h1 h2
            cases h1 with
            | cons u t => exact .cons u (ih t h2)
        exact app (dpAll_ex (Ex.new npn) (dpAll_ex e3 hacc2)) (dpAll_ex (Ex.new npn) hd3)
  · obtain ⟨l, acc, x3, x4, x5, x6, x7, rfl, eN, hT1, hl, hacc⟩ := hW
    have en : ((z.length : Int) + 1).toNat = z.length + 1 := by omega
    rw [en] at hacc
    exact ⟨_, rfl, q l acc H' eN hT1 hl hacc⟩
end
end K24

set_option maxHeartbeats 4000000
set_option autoImplicit false
namespace AsKit
open PySem PySem.Spec PyProof.Rows L2 AsSort
open Evl (Ex Ev EvT EvA)
section
variable {K : PySem.W.Frag} {σ : L2.St} {H : Hp} {te ta tb : TE} {d : PyData}
theorem d_neB {x y : Bool} (h : EvD K ta σ H (.bool x)) (h2 : EvD K tb σ H (.bool y)) : EvD K (tOp rNe ta tb) σ H (.bool (!decide (x = y))) :=
  d_eqTo (d_ofB (Evl.ev_op (ev_bl h) (ev_bl h2) (Evl.rv_ne rfl))) (by cases x <;> cases y <;> rfl)
theorem d_eqB {x y : Bool} (h : EvD K ta σ H (.bool x)) (h2 : EvD K tb σ H (.bool y)) : EvD K (tOp rEq ta tb) σ H (.bool (decide (x = y))) :=
  d_eqTo (d_ofB (Evl.ev_op (ev_bl h) (ev_bl h2) (Evl.rv_eq rfl))) (by cases x <;> cases y <;> rfl)
theorem t_isNo (h : EvD K ta σ H d) (n : d ≠ .none) : EvT (tTest (tOp (fun x y H Q => y = .non ∧ Q (.bl (decide (x = .non))) H) ta (tC .non))) σ H false := fun H1 a Q q =>
  h H1 a _ fun v H2 x hd => by
    have e : decide (v = V.non) = false := by
      apply decide_eq_false
      intro e
      subst e
      cases hd
      exact n rfl
    exact ⟨rfl, _, rfl, by rw [e]; exact q H2 x⟩
theorem EvT_not_true {t : TT} (h : EvT t σ H true) : EvT (tNot t) σ H false := Evl.et_not h
/-- isinstance(e, (tuple, list)) -/
theorem d_isTL {b : Bool} (h : EvD K te σ H d) (hb : b = (isD "tuple" d || isD "list" d)) : EvD K (tCB (rIsiT K) (tCons te (tCons (tTup (tCons (tC (.ty "tuple")) (tCons (tC (.ty "list")) tNil))) tNil))) σ H (.bool b) := by
  refine d_isiT (cs := [.ty "tuple", .ty "list"]) (us := [.type "tuple", .type "list"]) h (fun H1 _ => Evl.ea_cons Evl.ev_c (Evl.ea_cons Evl.ev_c Evl.ea_nil)) (by decide) (.cons (.ty _) (.cons (.ty _) .nil)) ?_
  have k1 : kitB (tyName d) "tuple" = some (isD "tuple" d) := isD_kit (by decide +kernel) d
  have k2 : kitB (tyName d) "list" = some (isD "list" d) := isD_kit (by decide +kernel) d
  refine kitAny_cons (kit_ty k1) (fun h1 => kitAny_cons (r := b) (kit_ty k2) (fun h2 => ?_) fun h2 => by rw [hb, h2, Bool.or_true]) fun h1 => by rw [hb, h1, Bool.true_or]
  rw [hb, h1, h2]
  rfl
end
section
variable {X : Cx} {e : Expr} {te : TE} {p : Pos}
theorem pe_isTL {p2 p3 p4 pos : Pos} {k : Nat} (hb : Bl X.mg) (he : PE X e te) (hg : Gl X "isinstance" := by rfl) (hg2 : Gl X "tuple" := by rfl) (hg3 : Gl X "list" := by rfl)
    (hs : starEach [e, .Tuple [.Name "tuple" p2, .Name "list" p3] k p4] X.env = (false, eval e X.env) :: starEach [.Tuple [.Name "tuple" p2, .Name "list" p3] k p4] X.env := by rfl) :
    PE X (.Call (.Name "isinstance" p) [e, .Tuple [.Name "tuple" p2, .Name "list" p3] k p4] [] pos) (tCB (rIsiT X.K) (tCons te (tCons (tTup (tCons (tC (.ty "tuple")) (tCons (tC (.ty "list")) tNil))) tNil))) :=
  pe_callB call_isiT hg (hb _ (by decide +kernel)) (by decide +kernel) (pa_cons he (pa_cons (pe_tup (pa_cons (pe_bltn hg2 (hb _ (by decide +kernel)) (by decide +kernel) rfl) (pa_cons (pe_bltn hg3 (hb _ (by decide +kernel)) (by decide +kernel) rfl) pa_nil))) pa_nil) hs) (he := hs)
end
end AsKit
namespace K24
open PySem PySem.Spec PyProof.Rows L2 AsSort AsKit
open Evl (Ex Ev EvT EvA)
section
variable {P : Program} {w : World} {K : PySem.W.Frag} {mg : Str → Option Value} {base : Heap}
abbrev nAlike : List Str := ["found", "due", "k", "key"]
theorem sc_alike : FnScope nAlike ["found", "due"] (defScope sAlike) := ⟨rfl, rfl, rfl, by decide +kernel, rfl, by decide +kernel, by decide +kernel⟩
/-- data of ints, texts, tuples of them, of depth n at most -/
def okD : Nat → PyData → Prop
  | _, .int _ => True
  | _, .str _ => True
  | _, .none => True
  | _, .bool _ => True
  | n + 1, .tuple ds => ds.length ≤ 40000 ∧ ∀ d ∈ ds, okD n d
  | n + 1, .list ds => ds.length ≤ 40000 ∧ ∀ d ∈ ds, okD n d
  | _, _ => False
abbrev spAlike (K : PySem.W.Frag) (n : Nat) : Sp := spP K (fun ds => ∃ d, ds = [d, d] ∧ okD n d) (fun _ => .bool true)
abbrev iI (K : PySem.W.Frag) (T : String) (i : Nat) : TE := tCB (rIsi K) (tCons (tVar i) (tCons (tC (.ty T)) tNil))
/-- behind the branch of tuples -/
def tTail (K : PySem.W.Frag) : TS := tSeq (tIfS (tB (iI K "dict" 1)) tNever tNext) (tSeq (tIfS (tOr (tTest (tOp (fun x y H Q => y = .non ∧ Q (.bl (decide (x = .non))) H) (tVar 1) (tC .non))) (tB (iI K "str" 1))) (tRet (tAndV (tOp rEq (tVar 0) (tVar 1)) (tOp rEq (iI K "str" 0) (iI K "str" 1)))) tNext)
  (tRet (tAndV (iI K "int" 0) (tAndV (tOp rEq (iI K "bool" 0) (iI K "bool" 1)) (tOp rEq (tVar 0) (tVar 1))))))
theorem isD_of {T y : String} {b : Bool} (h : kitB y T = some b) {d : PyData} (hy : tyName d = y) : isD T d = b := by unfold isD; rw [hy, h]
theorem alike_tail {d : PyData} {Q : VK} {D : Ends} (hD : D.rt = Q) {v v2 : V} {H H0 : Hp} (h0 : Dp K H v d) (h1 : Dp K H v2 d) (ho : okD 0 d) (q : ∀ u H', Ex H H' → Dp K H' u (.bool true) → Q u H') : tTail K D (start nAlike [v, v2]) H := by
  have a0 : At K (start nAlike [v, v2]) H 0 d := ⟨_, rfl, h0⟩
  have a1 : At K (start nAlike [v, v2]) H 1 d := ⟨_, rfl, h1⟩
  have k : ∀ y ∈ names7, (y = "int" → kitB y "dict" = some false ∧ kitB y "str" = some false ∧ kitB y "int" = some true ∧ kitB y "bool" = some false) ∧ (y = "str" → kitB y "dict" = some false ∧ kitB y "str" = some true) := by decide +kernel
  have nodict : isD "dict" d = false := by
    cases d with
    | int i => unfold isD; rw [((k "int" (by decide)).1 rfl).1 |> fun z => (show kitB (tyName (.int i)) "dict" = some false from z)]
    | str z => unfold isD; rw [((k "str" (by decide)).2 rfl).1 |> fun y => (show kitB (tyName (.str z)) "dict" = some false from y)]
    | none => exact isD_of (by decide +kernel) rfl
    | bool b => exact isD_of (y := "bool") (by decide +kernel) rfl
    | _ => exact ho.elim
  unfold tTail
  refine Evl.q_when (b := isD "dict" d) (t_ofB (d_isD (d_var a1))) (fun h => by rw [nodict] at h; cases h) fun _ H1 e1 => ?_
  cases d with
  | str z =>
    have ss : isD "str" (.str z) = true := isD_str1 z
    refine Evl.q_when (b := false || isD "str" (.str z)) (Evl.et_or (t_isNo (K := K) (d_var (a1.mono e1)) (fun e => nomatch e)) fun _ => t_ofB (d_isD (d_var (a1.mono e1)))) (fun _ H2 e2 => ?_) fun h => by rw [ss] at h; cases h
    have b0 := (a0.mono e1).mono e2
    have b1 := (a1.mono e1).mono e2
    refine AsKit.s_ret (K := K) (d_and (d_eqS (d_var b0) (d_var b1)) fun _ => d_eqB (d_isD (d_var b0)) (d_isD (d_var b1))) fun u H3 e3 hu => ?_
    show D.rt u H3
    rw [hD]
    refine q u H3 ((e1.trans e2).trans e3) ?_
    rw [decide_eq_true rfl, decide_eq_true rfl] at hu
    exact hu
  | int i =>
    have ss : isD "str" (.int i) = false := by unfold isD; rw [((k "int" (by decide)).1 rfl).2.1 |> fun z => (show kitB (tyName (.int i)) "str" = some false from z)]
    have si : isD "int" (.int i) = true := by unfold isD; rw [((k "int" (by decide)).1 rfl).2.2.1 |> fun z => (show kitB (tyName (.int i)) "int" = some true from z)]
    refine Evl.q_when (b := false || isD "str" (.int i)) (Evl.et_or (t_isNo (K := K) (d_var (a1.mono e1)) (fun e => nomatch e)) fun _ => t_ofB (d_isD (d_var (a1.mono e1)))) (fun h => by rw [ss] at h; cases h) fun _ H2 e2 => ?_
    have b0 := (a0.mono e1).mono e2
    have b1 := (a1.mono e1).mono e2
    refine AsKit.s_ret (K := K) (d_and (d_isD (d_var b0)) fun _ => d_and (d_eqB (d_isD (d_var b0)) (d_isD (d_var b1))) fun _ => d_eqI (d_var b0) (d_var b1)) fun u H3 e3 hu => ?_
    show D.rt u H3
    rw [hD]
    refine q u H3 ((e1.trans e2).trans e3) ?_
    rw [si, decide_eq_true rfl, decide_eq_true rfl] at hu
    exact hu
  | none =>
    have ss : isD "str" .none = false := isD_of (by decide +kernel) rfl
    have yes : EvT (tTest (tOp (fun x y H Q => y = .non ∧ Q (.bl (decide (x = .non))) H) (tVar 1) (tC .non))) (start nAlike [v, v2]) H1 true := fun H2 a Q q => by
      obtain ⟨v', e', hv'⟩ := a1.mono (e1.trans a)
      cases hv'
      exact ⟨_, e', rfl, true, by simp, q H2 (Ex.refl _)⟩
    refine Evl.q_when (b := true || isD "str" .none) (Evl.et_or yes fun h => by cases h) (fun _ H2 e2 => ?_) fun h => by cases h
    have b0 := (a0.mono e1).mono e2
    have b1 := (a1.mono e1).mono e2
    have eqn : EvD K (tOp rEq (tVar 0) (tVar 1)) (start nAlike [v, v2]) H2 (.bool true) := fun H3 a Q q => by
      obtain ⟨v', e', hv'⟩ := b0.mono a
      obtain ⟨v3, e3, hv3⟩ := b1.mono a
      cases hv'
      cases hv3
      exact ⟨_, e', _, e3, rfl, q _ H3 (Ex.refl _) (by simpa using Dp.bl true)⟩
    refine AsKit.s_ret (K := K) (d_and eqn fun _ => d_eqB (d_isD (d_var b0)) (d_isD (d_var b1))) fun u H3 e3 hu => ?_
    show D.rt u H3
    rw [hD]
    refine q u H3 ((e1.trans e2).trans e3) ?_
    rw [decide_eq_true rfl] at hu
    exact hu
  | bool b =>
    have ss : isD "str" (.bool b) = false := isD_of (y := "bool") (by decide +kernel) rfl
    have si : isD "int" (.bool b) = true := isD_of (y := "bool") (by decide +kernel) rfl
    refine Evl.q_when (b := false || isD "str" (.bool b)) (Evl.et_or (t_isNo (K := K) (d_var (a1.mono e1)) (fun e => nomatch e)) fun _ => t_ofB (d_isD (d_var (a1.mono e1)))) (fun h => by rw [ss] at h; cases h) fun _ H2 e2 => ?_
    have b0 := (a0.mono e1).mono e2
    have b1 := (a1.mono e1).mono e2
    refine AsKit.s_ret (K := K) (d_and (d_isD (d_var b0)) fun _ => d_and (d_eqB (d_isD (d_var b0)) (d_isD (d_var b1))) fun _ => d_eqB (d_var b0) (d_var b1)) fun u H3 e3 hu => ?_
    show D.rt u H3
    rw [hD]
    refine q u H3 ((e1.trans e2).trans e3) ?_
    rw [si, decide_eq_true rfl, decide_eq_true rfl] at hu
    exact hu
  | _ => exact ho.elim
theorem noseq {d : PyData} (ho : okD 0 d) : (isD "tuple" d || isD "list" d) = false := by
  have k : ∀ y ∈ names7, y = "int" ∨ y = "str" → kitB y "tuple" = some false ∧ kitB y "list" = some false := by decide +kernel
  cases d with
  | int i =>
    have z := k "int" (by decide) (.inl rfl)
    unfold isD
    rw [show kitB (tyName (.int i)) "tuple" = some false from z.1, show kitB (tyName (.int i)) "list" = some false from z.2]
    rfl
  | str i =>
    have z := k "str" (by decide) (.inr rfl)
    unfold isD
    rw [show kitB (tyName (.str i)) "tuple" = some false from z.1, show kitB (tyName (.str i)) "list" = some false from z.2]
    rfl
  | none => rw [isD_of (T := "tuple") (b := false) (by decide +kernel) rfl, isD_of (T := "list") (b := false) (by decide +kernel) rfl]; rfl
  | bool b => rw [isD_of (T := "tuple") (y := "bool") (b := false) (by decide +kernel) rfl, isD_of (T := "list") (y := "bool") (b := false) (by decide +kernel) rfl]; rfl
  | _ => exact ho.elim
theorem alike_body0 (hb : Bl mg) (f : Addr) (cdv : Value) (A : Around) (outer : List Env) (s : Shared) (H : Hp) (Q : VK) (E : XK) {v v2 : V} {d : PyData} (h0 : Dp K H v d) (h1 : Dp K H v2 d) (ho : okD 0 d) (q : ∀ u H', Ex H H' → Dp K H' u (.bool true) → Q u H') :
    ∃ t, PSs (cxOf CX0 P w K mg base nAlike "_law_alike" (defScope sAlike) f cdv A outer s H E).nox (defBody sAlike) t ∧ t { nx := fun _ H' => Q .non H', rt := Q } (start nAlike [v, v2]) H := by
    refine ⟨tSeq _ (tTail K), pss_cons (ps_if (pt_val (pe_isTL hb (pv 1))) pss_never pss_nil)
      (pss_cons (ps_if (pt_val (pe_isi (x := "dict") (T := "dict") hb (pv 1))) pss_never pss_nil)
      (pss_cons (ps_if (pw_or (pt_cmpR op_isN (pv 1) pe_non rfl) (pw_or1 (pt_val (pe_isi (x := "str") (T := "str") hb (pv 1))))).pt (pss_one (ps_ret (pe_and (pe_cmpR op_eq (pv 0) (pv 1) (nomark _)) (pe_one (pe_cmpR op_eq (pe_isi (x := "str") (T := "str") hb (pv 0)) (pe_isi (x := "str") (T := "str") hb (pv 1)) (nomark _)))))) pss_nil)
      (pss_one (ps_ret (pe_and (pe_isi (x := "int") (T := "int") hb (pv 0)) (pe_and (pe_cmpR op_eq (pe_isi (x := "bool") (T := "bool") hb (pv 0)) (pe_isi (x := "bool") (T := "bool") hb (pv 1)) (nomark _)) (pe_one (pe_cmpR op_eq (pv 0) (pv 1) (nomark _))))))))), ?_⟩
    have a1 : At K (start nAlike [v, v2]) H 1 d := ⟨_, rfl, h1⟩
    refine Evl.q_when (b := (isD "tuple" d || isD "list" d)) (t_ofB (d_isTL (d_var a1) rfl)) (fun h => by rw [noseq ho] at h; cases h) fun _ H1 e1 => ?_
    exact alike_tail (H0 := H) rfl (dp_ex e1 h0) (dp_ex e1 h1) ho fun u H2 e2 hu => q u H2 (e1.trans e2) hu
theorem c_alike (D : Df K mg "_law_alike" sAlike) (hb : Bl mg) : ∀ n, Cl P w K mg base (n + 1) "_law_alike" (spAlike K n) []
  | 0 => by
    refine cl_of D sc_alike (len_sp fun ds ⟨d, h, _⟩ => by rw [h]; rfl) (fun _ _ _ _ _ _ us hl => match us, hl with | [_, _], _ => rfl) fun f cdv A outer s H vs Q E hr h => ?_
    obtain ⟨ds, hd, ⟨d, rfl, ho⟩, q⟩ := h
    obtain ⟨v, v2, rfl, h0, h1⟩ := dp2 hd
    exact alike_body0 hb f cdv A outer s H Q E h0 h1 ho q
  | n + 1 => by
    have C := c_alike D hb n
    refine cl_of D sc_alike (len_sp fun ds ⟨d, h, _⟩ => by rw [h]; rfl) (fun _ _ _ _ _ _ us hl => match us, hl with | [_, _], _ => rfl) fun f cdv A outer s H vs Q E hr h => ?_
    obtain ⟨ds, hd, ⟨d, rfl, ho⟩, q⟩ := h
    obtain ⟨v, v2, rfl, h0, h1⟩ := dp2 hd
    have hu : (A.deeper (envOfC "_law_alike" (defScope sAlike) s.heap.objs.size f cdv)).units + 64 < cLine := by have := hr.un; omega
    have a0 : At K (start nAlike [v, v2]) H 0 d := ⟨_, rfl, h0⟩
    have a1 : At K (start nAlike [v, v2]) H 1 d := ⟨_, rfl, h1⟩
    cases d with
    | tuple es =>
      refine ⟨_, pss_cons (ps_if (pt_val (pe_isTL hb (pv 1)))
        (pss_cons (ps_if (pw_or (pt_not (pt_val (pe_isTL hb (pv 0)))) (pw_or1 (pt_cmpR op_ne (pe_isi (x := "list") (T := "list") hb (pv 0)) (pe_isi (x := "list") (T := "list") hb (pv 1)) (nomark _)))).pt (pss_one (ps_ret pe_bl)) pss_nil)
        (pss_cons (ps_if (pt_cmpR op_ne (pe_lenQ hb (pv 0)) (pe_lenQ hb (pv 1)) (nomark _)) (pss_one (ps_ret pe_bl)) pss_nil)
        (pss_one (ps_ret (pe_cmpR (op_eqD hu) (pe_lcn 2 sc_alike.nd (pi_range1 (by rfl) (hb _ (by decide +kernel)) (pa_cons (pe_lenQ hb (pv 1)) pa_nil)) (fun _ _ _ _ _ => pts_one (pt_not (pt_val (C8.pe_c C (hr.mono (Nat.le_refl _)) (Nat.le_refl _) (by rfl) (pa_cons (pe_ix (r := rIxT K) ix_tup (pv 0) (pv 2) (fun _ _ => rfl)) (pa_cons (pe_ix (r := rIxT K) ix_tup (pv 1) (pv 2) (fun _ _ => rfl)) pa_nil)))))) (fun _ _ _ _ _ => pv 2) (fun _ _ _ _ _ => pg_name sc_alike.nd rfl (.inl rfl)) (blkOk_by (N := nAlike) (sc := defScope sAlike) (own := [("k", 2)]) (by decide +kernel)) rfl) (pe_lst pa_nil) (nomark _)))))) pss_nil)
        pss_never, ?_⟩
      have z1 : isD "tuple" (.tuple es) = true := isD_tup1 es
      refine Evl.q_when (b := (isD "tuple" (.tuple es) || isD "list" (.tuple es))) (t_ofB (d_isTL (d_var a1) rfl)) (fun _ H1 e1 => ?_) fun h => by rw [z1] at h; cases h
      refine Evl.q_when (b := !(isD "tuple" (.tuple es) || isD "list" (.tuple es)) || !decide (isD "list" (.tuple es) = isD "list" (.tuple es))) (Evl.et_or (Evl.et_not (t_ofB (d_isTL (d_var (a0.mono e1)) rfl))) fun _ => t_ofD (d_neB (d_isD (d_var (a0.mono e1))) (d_isD (d_var (a1.mono e1))))) (fun h => by rw [z1, decide_eq_true rfl] at h; cases h) fun _ H2 e2 => ?_
      have b0 := (a0.mono e1).mono e2
      have b1 := (a1.mono e1).mono e2
      refine Evl.q_when (b := !decide ((es.length : Int) = (es.length : Int))) (t_ofD (d_neI (d_lenT (d_var b0)) (d_lenT (d_var b1)))) (fun h => by rw [decide_eq_true rfl] at h; cases h) fun _ H3 e3 => ?_
      have c0 := b0.mono e3
      have c1 := b1.mono e3
      have hlen : es.length ≤ 40000 := ho.1
      refine AsKit.s_ret (K := K) (d_eqD (d := .list []) (e := .list []) (d_eqTo (d_lcR1 (hi := (es.length : Int)) (fun _ => false) id (ds_cons (d_lenT (d_var c1)) ds_nil) (by omega) (fun _ _ h => by cases h) fun i hi x H4 e4 hx k hk => hk _ rfl (EvT_not_true (t_ofB (K := K) ?_)) fun h => by cases h) ?_) (d_lst ds_nil (Nat.zero_le _)) (by decide +kernel) (by decide +kernel)) fun u H4 e4 hu => q u H4 (((e1.trans e2).trans e3).trans e4) ?_
      · have hi2 : i < es.length := by omega
        have g0 : At K ((wipe (start nAlike [v, v2]) [2]).set 2 (some x)) H4 0 (.tuple es) := ⟨_, rfl, dp_ex (((e1.trans e2).trans e3).trans e4) h0⟩
        have g1 : At K ((wipe (start nAlike [v, v2]) [2]).set 2 (some x)) H4 1 (.tuple es) := ⟨_, rfl, dp_ex (((e1.trans e2).trans e3).trans e4) h1⟩
        have g2 : At K ((wipe (start nAlike [v, v2]) [2]).set 2 (some x)) H4 2 (.int (0 + (i : Int))) := ⟨_, rfl, hx⟩
        have hix : atI es (0 + (i : Int)) = some es[i] := by rw [Int.zero_add]; exact atI_nat (List.getElem?_eq_getElem hi2)
        exact d_call (ds_cons (d_ixT (d_var g0) (d_var g2) hix) (ds_cons (d_ixT (d_var g1) (d_var g2) hix) ds_nil)) ⟨es[i], rfl, ho.2 _ (List.getElem_mem hi2)⟩
      · rw [List.filter_eq_nil_iff.mpr fun _ _ h => by cases h]
        rfl
      · have e : PyData.eqv (.list []) (.list []) = true := by decide +kernel
        rw [e] at hu
        exact hu
    | list es =>
      refine ⟨_, pss_cons (ps_if (pt_val (pe_isTL hb (pv 1)))
        (pss_cons (ps_if (pw_or (pt_not (pt_val (pe_isTL hb (pv 0)))) (pw_or1 (pt_cmpR op_ne (pe_isi (x := "list") (T := "list") hb (pv 0)) (pe_isi (x := "list") (T := "list") hb (pv 1)) (nomark _)))).pt (pss_one (ps_ret pe_bl)) pss_nil)
        (pss_cons (ps_if (pt_cmpR op_ne (pe_lenQ hb (pv 0)) (pe_lenQ hb (pv 1)) (nomark _)) (pss_one (ps_ret pe_bl)) pss_nil)
        (pss_one (ps_ret (pe_cmpR (op_eqD hu) (pe_lcn 2 sc_alike.nd (pi_range1 (by rfl) (hb _ (by decide +kernel)) (pa_cons (pe_lenQ hb (pv 1)) pa_nil)) (fun _ _ _ _ _ => pts_one (pt_not (pt_val (C8.pe_c C (hr.mono (Nat.le_refl _)) (Nat.le_refl _) (by rfl) (pa_cons (pe_ix (r := rIxL K) ix_list (pv 0) (pv 2) (fun _ _ => rfl)) (pa_cons (pe_ix (r := rIxL K) ix_list (pv 1) (pv 2) (fun _ _ => rfl)) pa_nil)))))) (fun _ _ _ _ _ => pv 2) (fun _ _ _ _ _ => pg_name sc_alike.nd rfl (.inl rfl)) (blkOk_by (N := nAlike) (sc := defScope sAlike) (own := [("k", 2)]) (by decide +kernel)) rfl) (pe_lst pa_nil) (nomark _)))))) pss_nil)
        pss_never, ?_⟩
      have z1 : (isD "tuple" (.list es) || isD "list" (.list es)) = true := by rw [isD_of (T := "list") (y := "list") (b := true) (by decide +kernel) rfl, Bool.or_true]
      refine Evl.q_when (b := (isD "tuple" (.list es) || isD "list" (.list es))) (t_ofB (d_isTL (d_var a1) rfl)) (fun _ H1 e1 => ?_) fun h => by rw [z1] at h; cases h
      refine Evl.q_when (b := !(isD "tuple" (.list es) || isD "list" (.list es)) || !decide (isD "list" (.list es) = isD "list" (.list es))) (Evl.et_or (Evl.et_not (t_ofB (d_isTL (d_var (a0.mono e1)) rfl))) fun _ => t_ofD (d_neB (d_isD (d_var (a0.mono e1))) (d_isD (d_var (a1.mono e1))))) (fun h => by rw [z1, decide_eq_true rfl] at h; cases h) fun _ H2 e2 => ?_
      have b0 := (a0.mono e1).mono e2
      have b1 := (a1.mono e1).mono e2
      refine Evl.q_when (b := !decide ((es.length : Int) = (es.length : Int))) (t_ofD (d_neI (d_lenL (d_var b0)) (d_lenL (d_var b1)))) (fun h => by rw [decide_eq_true rfl] at h; cases h) fun _ H3 e3 => ?_
      have c0 := b0.mono e3
      have c1 := b1.mono e3
      have hlen : es.length ≤ 40000 := ho.1
      refine AsKit.s_ret (K := K) (d_eqD (d := .list []) (e := .list []) (d_eqTo (d_lcR1 (hi := (es.length : Int)) (fun _ => false) id (ds_cons (d_lenL (d_var c1)) ds_nil) (by omega) (fun _ _ h => by cases h) fun i hi x H4 e4 hx k hk => hk _ rfl (EvT_not_true (t_ofB (K := K) ?_)) fun h => by cases h) ?_) (d_lst ds_nil (Nat.zero_le _)) (by decide +kernel) (by decide +kernel)) fun u H4 e4 hu => q u H4 (((e1.trans e2).trans e3).trans e4) ?_
      · have hi2 : i < es.length := by omega
        have g0 : At K ((wipe (start nAlike [v, v2]) [2]).set 2 (some x)) H4 0 (.list es) := ⟨_, rfl, dp_ex (((e1.trans e2).trans e3).trans e4) h0⟩
        have g1 : At K ((wipe (start nAlike [v, v2]) [2]).set 2 (some x)) H4 1 (.list es) := ⟨_, rfl, dp_ex (((e1.trans e2).trans e3).trans e4) h1⟩
        have g2 : At K ((wipe (start nAlike [v, v2]) [2]).set 2 (some x)) H4 2 (.int (0 + (i : Int))) := ⟨_, rfl, hx⟩
        have hix : atI es (0 + (i : Int)) = some es[i] := by rw [Int.zero_add]; exact atI_nat (List.getElem?_eq_getElem hi2)
        exact d_call (ds_cons (d_ixL (d_var g0) (d_var g2) hix) (ds_cons (d_ixL (d_var g1) (d_var g2) hix) ds_nil)) ⟨es[i], rfl, ho.2 _ (List.getElem_mem hi2)⟩
      · rw [List.filter_eq_nil_iff.mpr fun _ _ h => by cases h]
        rfl
      · have e : PyData.eqv (.list []) (.list []) = true := by decide +kernel
        rw [e] at hu
        exact hu
    | int i => exact alike_body0 hb f cdv A outer s H Q E h0 h1 trivial q
    | str z => exact alike_body0 hb f cdv A outer s H Q E h0 h1 trivial q
    | none => exact alike_body0 hb f cdv A outer s H Q E h0 h1 trivial q
    | bool z => exact alike_body0 hb f cdv A outer s H Q E h0 h1 trivial q
    | _ => exact ho.elim
end
end K24

set_option maxHeartbeats 4000000
set_option autoImplicit false
/-! min(xs, key=f), f a def of the program whose promise is data. -/
namespace AsMin
open PySem PySem.Spec PyProof.Rows L2 LamX NdefX AsSort AsMax
open Evl (Ex)
section
variable {X : Cx} {pins : List (Addr × Obj)} {σ : L2.St} {H : Hp} {s : Shared}
/-- f gives the i-th item its i-th data, from wherever it is called one call deeper; what nobody knows stays -/
def KeysD (X : Cx) (f : Value) (H : Hp) (xs : List V) (kz : List PyData) : Prop :=
  ∀ (pins : List (Addr × Obj)) (σ : L2.St) (G : Hp) (z : Shared) (i : Nat) (x : V) (u : Value) (d : PyData), Inv X pins σ G z → Ex H G → xs[i]? = some x → kz[i]? = some d → RelV x u →
    wpAny (model X.prog X.w) X.A.in1 (call f [u]) (fun u' z' => ∃ v G', Inv X pins σ G' z' ∧ RelV v u' ∧ Ex G G' ∧ Dp X.K G' v d ∧ ∀ b o, z.heap.get? b = some o → G b = none → b ∉ X.fs → b ≠ X.env.locals → z'.heap.get? b = some o ∧ G' b = none) (fun _ _ => False) z
/-- the i-th data is less than the j-th -/
def btD (kz : List PyData) (i j : Nat) : Bool := PySem.W.dataLt (kz.getD i .none) (kz.getD j .none)
theorem getD_of {kz : List PyData} {i : Nat} {d : PyData} (h : kz[i]? = some d) : kz.getD i .none = d := by
  rw [List.getD_eq_getElem?_getD, h]
  rfl
theorem btD_of {kz : List PyData} {i j : Nat} {a b : PyData} (h1 : kz[i]? = some a) (h2 : kz[j]? = some b) : PySem.W.dataLt a b = btD kz i j := by
  unfold btD
  rw [getD_of h1, getD_of h2]
variable {it S l f : Addr} {xs : List V} {kz : List PyData} {R : Result → Shared → Prop}
theorem turn (hh : X.A.handled = none) (hs : SqL X.K H l xs) (hk : KeysD X (.ref f) H xs kz) (hl : kz.length = xs.length) (hu : ∀ d ∈ kz, d ≠ .none ∧ X.A.in1.units + d.depth < cLine) (ha : PySem.W.AllAlike kz) (hne : it ≠ S) (hlt : l ≠ it) (hlS : l ≠ S) (fit : FpOk X pins H it) (fS : FpOk X pins H S)
    (hR : ∀ (v : Value) (z : Shared) (x : V) (G : Hp), xs[argBest (btD kz) (xs.length - 1)]? = some x → RelV x v → Inv X pins σ G z → Ex H G → R (.ok (.ret v)) z) :
    ∀ (k j : Nat) (z : Shared) (G : Hp) (ub kb : Value) (xb vk : V) (d : PyData) (c : Nat), xs.length - (j + 1) = k → j + 1 ≤ xs.length → Inv X pins σ G z → Ex H G → G it = none → G S = none → z.heap.IsListIter it l (j + 1) →
      z.heap.get? S = some { cls := .type "list", dict := none, data := .seq #[ub, kb] c, slots := #[] } → xs[argBest (btD kz) j]? = some xb → RelV xb ub → kz[argBest (btD kz) j]? = some d → RelV vk kb → Dp X.K G vk d →
      codeAny (model X.prog X.w) X.A (.builtin "min.loop" ⟨[.ref it, .ref f, .ref S], []⟩) R z := by
  have nm : (toString "min" ++ toString ".loop" : String) = "min.loop" := by decide
  intro k
  induction k with
  | zero =>
    intro j z G ub kb xb vk d c h1 h2 J e n1 n2 hit hS hx rx hd rk dp
    obtain ⟨its, r, ⟨o, n, ho, hc, hsl, hdt⟩, hz⟩ := J.list (Evl.ex_l e hs)
    have hlen : its.length = xs.length := r.length.symm
    refine codeAny_builtin PySem.F.entry_min_loop ?_
    rw [Around.under_plainId PySem.F.plain_min_loop _]
    show wpAny (model X.prog X.w) X.A.in1 (seqItems? (.ref S) >>= _) _ _ z
    refine wpAny_bind (wpAny_seqItems hS rfl ?_)
    show wpAny (model X.prog X.w) X.A.in1 (tryCatch (pyNext (.ref it)) _ >>= _) _ _ z
    refine wpAny_bind (wpAny_tryCatch (wpAny_pyNext_list_end hh hit ⟨o, ho, hc, n, hdt⟩ (by rw [List.getElem?_toArray]; exact List.getElem?_eq_none (by omega)) fun h' eb => ?_))
    have hS' := eb S _ hne.symm hS
    show wpAny (model X.prog X.w) X.A.in1 (updateSeq S (fun _ => #[]) >>= _) _ _ _
    refine wpAny_bind (wpAny_updateSeq hS' rfl (wpAny_bind (wpAny_letGo (wpAny_pure ?_))))
    have J2 : Inv X pins σ G { z with heap := h'.update S (Obj.mapSeq fun _ => (#[] : Array Value)) } := J.turnedL (t' := z.toks) (ch := [it, S]) (fun b o hb q => (Heap.get?_update_ne _ _ _ _ (fun w => hb (by simp [w]))).trans (eb b o (fun w => hb (by simp [w])) q)) (fun b hb => by
      rcases List.mem_cons.mp hb with rfl | hb
      · exact fp_to fit n1
      · rw [List.mem_singleton.mp hb]
        exact fp_to fS n2)
    have ej : j = xs.length - 1 := by omega
    exact hR ub _ xb G (by rw [← ej]; exact hx) rx J2 e
  | succ k ih =>
    intro j z G ub kb xb vk d c h1 h2 J e n1 n2 hit hS hx rx hd rk dp
    have hj : j + 1 < xs.length := by omega
    obtain ⟨its, r, ⟨o, n, ho, hc, hsl, hdt⟩, hz⟩ := J.list (Evl.ex_l e hs)
    obtain ⟨u, hu1, ru⟩ := r.get (List.getElem?_eq_getElem hj)
    obtain ⟨d2, hd2⟩ : ∃ d2, kz[j + 1]? = some d2 := ⟨_, List.getElem?_eq_getElem (by omega)⟩
    refine codeAny_builtin PySem.F.entry_min_loop ?_
    rw [Around.under_plainId PySem.F.plain_min_loop _]
    show wpAny (model X.prog X.w) X.A.in1 (seqItems? (.ref S) >>= _) _ _ z
    refine wpAny_bind (wpAny_seqItems hS rfl ?_)
    show wpAny (model X.prog X.w) X.A.in1 (tryCatch (pyNext (.ref it)) _ >>= _) _ _ z
    refine wpAny_bind (wpAny_tryCatch (wpAny_pyNext_list_item hit ⟨o, ho, hc, n, hdt⟩ (x := u) (by rw [List.getElem?_toArray]; exact hu1) fun h' hit' sb => ?_))
    have hS' := (sb.2 S hne.symm).trans hS
    have J1 : Inv X pins σ G { z with heap := h' } := J.turnedL (t' := z.toks) (ch := [it]) (fun b o hb q => (sb.2 b (fun w => hb (by rw [w]; exact List.mem_singleton.mpr rfl))).trans q) (fun b hb => by rw [List.mem_singleton.mp hb]; exact fp_to fit n1)
    show wpAny (model X.prog X.w) X.A.in1 (tryCatch (holding [u] (call (.ref f) [u])) _ >>= _) _ _ _
    refine wpAny_bind (wpAny_tryCatch (wpAny_holding (wpAny_mono (hk pins σ G _ (j + 1) _ u d2 J1 e (List.getElem?_eq_getElem hj) hd2 ru) (fun u' z' hq => ?_) fun _ _ hF => hF.elim)))
    obtain ⟨v', G', J', rv', e', dp', kk⟩ := hq
    have e2 : Ex H G' := e.trans e'
    obtain ⟨o1, a1, a2, a3⟩ := hit'
    have q1 := kk it _ a1 n1 fit.2.2.1 fit.2.1
    have q2 := kk S _ hS' n2 fS.2.2.1 fS.2.1
    have dpb : Dp X.K G' vk d := AsSort.dp_ex e' dp
    obtain ⟨as1, rd1⟩ := Dp.reads J' d2 v' u' dp' rv'
    obtain ⟨as2, rd2⟩ := Dp.reads J' d vk kb dpb rk
    have m2 := List.mem_of_getElem? hd2
    have m1 := List.mem_of_getElem? hd
    have un := hu d2 m2
    show wpAny (model X.prog X.w) X.A.in1 (tryCatch (holding [u, u'] (richCompare .Lt u' kb >>= _)) _ >>= _) _ _ _
    refine wpAny_bind (wpAny_tryCatch (wpAny_holding (wpAny_bind (PySem.W.rcLt_alike (prog := X.prog) (w := X.w) d2 d X.A.in1 z' u' kb as1 as2 rd1 rd2 (ha d2 m2 d m1) un.1 (by have := un.2; omega) _ _ ?_))))
    refine wpAny_bind (wpAny_holding (wpAny_truthy_bool ?_))
    refine wpAny_bind (wpAny_letGo (wpAny_pure ?_))
    have eb : PySem.W.dataLt d2 d = btD kz (j + 1) (argBest (btD kz) j) := btD_of hd2 hd
    have hit2 : z'.heap.IsListIter it l (j + 1 + 1) := ⟨o1, q1.1, a2, a3⟩
    cases hb : PySem.W.dataLt d2 d with
    | true =>
      rw [hb] at eb
      have ab : argBest (btD kz) (j + 1) = j + 1 := by
        show (if btD kz (j + 1) (argBest (btD kz) j) = true then j + 1 else argBest (btD kz) j) = j + 1
        rw [← eb, if_pos rfl]
      simp only [if_true]
      refine wpAny_bind (wpAny_updateSeq q2.1 rfl (wpAny_bind (wpAny_letGo ?_)))
      rw [nm]
      have J2 : Inv X pins σ G' { z' with heap := z'.heap.update S (Obj.mapSeq fun _ => #[u, u']) } := J'.turnedL (t' := z'.toks) (ch := [S]) (fun b o hb q => (Heap.get?_update_ne _ _ _ _ (fun w => hb (by rw [w]; exact List.mem_singleton.mpr rfl))).trans q) (fun b hb => by rw [List.mem_singleton.mp hb]; exact fp_to fS q2.2)
      refine wpAny_pure ⟨plainId_quiet PySem.F.plain_min_loop _, ih (j + 1) _ G' u u' _ v' d2 _ (by omega) hj J2 e2 q1.2 q2.2 ⟨o1, (Heap.get?_update_ne _ _ _ _ hne).trans q1.1, a2, a3⟩ (Heap.get?_update_self _ q2.1 rfl) (by rw [ab]; exact List.getElem?_eq_getElem hj) ru (by rw [ab]; exact hd2) rv' dp'⟩
    | false =>
      rw [hb] at eb
      have ab : argBest (btD kz) (j + 1) = argBest (btD kz) j := by
        show (if btD kz (j + 1) (argBest (btD kz) j) = true then j + 1 else argBest (btD kz) j) = _
        rw [← eb, if_neg (by decide)]
      simp only [Bool.false_eq_true, if_false]
      refine wpAny_bind (wpAny_letGo ?_)
      rw [nm]
      exact wpAny_pure ⟨plainId_quiet PySem.F.plain_min_loop _, ih (j + 1) _ G' ub kb xb vk d c (by omega) hj J' e2 q1.2 q2.2 hit2 q2.1 (by rw [ab]; exact hx) rx (by rw [ab]; exact hd) rk dpb⟩
theorem min_run {Q : VK} (hh : X.A.handled = none) (I : Inv X pins σ H s) (hs : SqL X.K H l xs) (hk : KeysD X (.ref f) H xs kz) (hl : kz.length = xs.length) (hu : ∀ d ∈ kz, d ≠ .none ∧ X.A.in1.units + d.depth < cLine) (ha : PySem.W.AllAlike kz) (hn : 0 < xs.length)
    (q : ∀ x G, xs[argBest (btD kz) (xs.length - 1)]? = some x → Ex H G → Q x G) : wpAny (model X.prog X.w) X.A (call (.builtin "min") [.ref l] [(Str.ofString "key", .ref f)]) (EP X pins σ Q) X.xe s := by
  have nm : (toString "min" ++ toString ".loop" : String) = "min.loop" := by decide
  obtain ⟨its, r, ⟨o, n, ho, hc, hsl, hd⟩, hz⟩ := I.list hs
  refine PyProof.Rows.kmk_tree PySem.F.kind_min PySem.F.plain_min PySem.F.entry_min (PyProof.Rows.kmk_min_key _ _) ?_
  show wpAny (model X.prog X.w) X.A.in1 (Builtin.Builtins.bindParams "min" ["key", "default"] 0 ⟨[], [(Str.ofString "key", .ref f)]⟩ >>= _) _ _ s
  refine wpAny_bind (wpAny_of_eq (show Builtin.Builtins.bindParams "min" ["key", "default"] 0 ⟨[], [(Str.ofString "key", .ref f)]⟩ = pure [some (.ref f), none] from rfl) (wpAny_bind (wpAny_pure (wpAny_bind (wpAny_pyIter_list (items := its.toArray) ⟨o, ho, hc, n, hd⟩ ?_)))))
  obtain ⟨it, eit⟩ : ∃ it, it = s.heap.objs.size := ⟨_, rfl⟩
  rw [← eit]
  obtain ⟨s2, e2⟩ : ∃ s2 : Shared, s2 = { s with heap := s.heap.push { cls := .type "list_iterator", data := .fields #[.ref l, .int 0 0] } } := ⟨_, rfl⟩
  rw [← e2]
  have kp : ∀ b o, s.heap.get? b = some o → s2.heap.get? b = some o := fun b o e => by rw [e2]; exact Heap.get?_push_of_some _ e
  have I2 : Inv X pins σ H s2 := by rw [e2]; exact I.kept (t' := s.toks) (fun b o e => Heap.get?_push_of_some _ e)
  have nit : H it = none := I.hok.fresh (by rw [eit]; exact Nat.le_refl _)
  have hit : s2.heap.get? it = some { cls := .type "list_iterator", data := .fields #[.ref l, .int 0 0] } := by rw [e2, eit]; exact Heap.get?_push_size _ rfl
  have fit : FpOk X pins H it := I.fpOk (by rw [eit]; exact Nat.le_refl _) nit
  have hsz2 : s2.heap.objs.size = it + 1 := by rw [e2, eit]; exact size_push' _ _
  have hlt : l < it := by rw [eit]; exact Heap.lt_size ho
  obtain ⟨S, eS⟩ : ∃ S, S = s2.heap.objs.size := ⟨_, rfl⟩
  have nS : H S = none := I2.hok.fresh (by rw [eS]; exact Nat.le_refl _)
  have fS : FpOk X pins H S := I2.fpOk (by rw [eS]; exact Nat.le_refl _) nS
  have hne : it ≠ S := by rw [eS, hsz2]; exact Nat.ne_of_lt (Nat.lt_succ_self _)
  have hlS : l ≠ S := by rw [eS, hsz2]; exact Nat.ne_of_lt (Nat.lt_succ_of_lt hlt)
  refine wpAny_bind (wpAny_newObj_type ?_)
  rw [← eS]
  obtain ⟨s3, e3⟩ : ∃ s3 : Shared, s3 = { s2 with heap := s2.heap.push { cls := .type "list", data := .seq #[] 0 } } := ⟨_, rfl⟩
  have hS : s3.heap.get? S = some { cls := .type "list", dict := none, data := .seq #[] 0, slots := #[] } := by rw [e3, eS]; exact Heap.get?_push_size _ rfl
  have kp3 : ∀ b o, s2.heap.get? b = some o → s3.heap.get? b = some o := fun b o e => by rw [e3]; exact Heap.get?_push_of_some _ e
  have I3 : Inv X pins σ H s3 := by rw [e3]; exact I2.kept (t' := s2.toks) (fun b o e => Heap.get?_push_of_some _ e)
  rw [nm]
  refine wpAny_pure ⟨plainId_quiet PySem.F.plain_min_loop _, ?_⟩
  show codeAny (model X.prog X.w) X.A (.builtin "min.loop" ⟨[.ref it, .ref f, .ref S], []⟩) _ { s2 with heap := s2.heap.push { cls := .type "list", data := .seq #[] 0 } }
  rw [← e3]
  obtain ⟨its3, r3, ⟨o3, n3, ho3, hc3, hsl3, hdt3⟩, hz3⟩ := I3.list hs
  obtain ⟨u, hu1, ru⟩ := r3.get (List.getElem?_eq_getElem hn)
  obtain ⟨d2, hd2⟩ : ∃ d2, kz[0]? = some d2 := ⟨_, List.getElem?_eq_getElem (by omega)⟩
  refine codeAny_builtin PySem.F.entry_min_loop ?_
  rw [Around.under_plainId PySem.F.plain_min_loop _]
  show wpAny (model X.prog X.w) X.A.in1 (seqItems? (.ref S) >>= _) _ _ s3
  refine wpAny_bind (wpAny_seqItems hS rfl ?_)
  show wpAny (model X.prog X.w) X.A.in1 (tryCatch (pyNext (.ref it)) _ >>= _) _ _ s3
  refine wpAny_bind (wpAny_tryCatch (wpAny_pyNext_list_item (i := 0) ⟨_, kp3 _ _ hit, rfl, rfl⟩ ⟨o3, ho3, hc3, n3, hdt3⟩ (x := u) (by rw [List.getElem?_toArray]; exact hu1) fun h' hit' sb => ?_))
  have hS' := (sb.2 S hne.symm).trans hS
  have J1 : Inv X pins σ H { s3 with heap := h' } := I3.turnedL (t' := s3.toks) (ch := [it]) (fun b o hb q => (sb.2 b (fun w => hb (by rw [w]; exact List.mem_singleton.mpr rfl))).trans q) (fun b hb => by rw [List.mem_singleton.mp hb]; exact fit)
  show wpAny (model X.prog X.w) X.A.in1 (tryCatch (holding [u] (call (.ref f) [u])) _ >>= _) _ _ _
  refine wpAny_bind (wpAny_tryCatch (wpAny_holding (wpAny_mono (hk pins σ H _ 0 _ u d2 J1 (Ex.refl H) (List.getElem?_eq_getElem hn) hd2 ru) (fun u' z' hq => ?_) fun _ _ hF => hF.elim)))
  obtain ⟨v', G', J', rv', e', dp', kk⟩ := hq
  obtain ⟨o1, a1, a2, a3⟩ := hit'
  have q1 := kk it _ a1 nit fit.2.2.1 fit.2.1
  have q2 := kk S _ hS' nS fS.2.2.1 fS.2.1
  show wpAny (model X.prog X.w) X.A.in1 (updateSeq S (fun _ => #[u, u']) >>= _) _ _ _
  refine wpAny_bind (wpAny_updateSeq q2.1 rfl ?_)
  rw [nm]
  have J2 : Inv X pins σ G' { z' with heap := z'.heap.update S (Obj.mapSeq fun _ => #[u, u']) } := J'.turnedL (t' := z'.toks) (ch := [S]) (fun b o hb q => (Heap.get?_update_ne _ _ _ _ (fun w => hb (by rw [w]; exact List.mem_singleton.mpr rfl))).trans q) (fun b hb => by rw [List.mem_singleton.mp hb]; exact fp_to fS q2.2)
  refine wpAny_pure ⟨plainId_quiet PySem.F.plain_min_loop _, turn hh hs hk hl hu ha hne (Nat.ne_of_lt hlt) hlS fit fS (fun v z x G hx rx J e => ⟨x, G, J, rx, q x G hx e⟩) _ 0 _ G' u u' _ v' d2 _ rfl hn J2 e' q1.2 q2.2 ⟨o1, (Heap.get?_update_ne _ _ _ _ hne).trans q1.1, a2, a3⟩ (Heap.get?_update_self _ q2.1 rfl) (List.getElem?_eq_getElem hn) ru hd2 rv' dp'⟩
/-- a def as such a key -/
theorem keysD_of {k : Nat} {f : Addr} {fd : FuncData} {x : Str} {pre : List PyData → Prop} {g : List PyData → PyData} {H : Hp} {xs : List V} {ds : List PyData} (F : FnOk X.prog X.w X.K X.mg X.base C8.CX0 k f fd [x] (AsSort.spP X.K pre g)) (hr : Room (k + 1) X.A)
    (hb : Binds X.K fd [x] []) (hd : DpAll X.K H xs ds) (hp : ∀ d ∈ ds, pre [d]) : KeysD X (.ref f) H xs (ds.map fun d => g [d]) := by
  intro pins σ G z i v u d I ex hx hk ru
  rw [List.getElem?_map] at hk
  cases hi : ds[i]? with
  | none => rw [hi] at hk; cases hk
  | some d0 =>
    rw [hi] at hk
    have ed : g [d0] = d := Option.some.inj hk
    have hv : Dp X.K G v d0 := AsSort.dp_ex ex (AsSort.dpAll_get hd hx hi)
    have E0' : Env0 X.prog X.w X.K X.mg X.base X.A.in1 X.stack z G := I.env0.in1
    refine wpAny_call (codeAny_mono (F.run X.A.in1 X.stack z G ⟨[u], []⟩ [u] [v] (fun v G' => Ex G G' ∧ Dp X.K G' v d) C8.E0 hr.in1 E0' (hb z [u] I.kIn rfl) (.cons ru .nil) ⟨[d0], .cons hv .nil, hp d0 (List.mem_of_getElem? hi), fun w' G' e' h' => ⟨e', by rw [← ed]; exact h'⟩⟩) fun r s' hq => ?_)
    cases r with
    | error e => exact hq.elim
    | ok fl =>
      cases fl with
      | ret u =>
        obtain ⟨v', H', os, bare, un, hok, rr, e', hd'⟩ := hq
        obtain ⟨hh, g', d', t', os'⟩ := s'
        obtain rfl : os' = z.os := os
        refine ⟨v', H', I.call (h' := hh) (g' := g') (d' := d') (t' := t') (ch := []) un hok bare (fun b z => absurd z (by simp)), rr, e', hd', fun b o hb hn hfs hl => ⟨un.keep b o hb hn (fun w => (List.mem_cons.mp (I.stkSub b w)).elim hl hfs) List.not_mem_nil, un.free b o hb hn List.not_mem_nil⟩⟩
      | next => exact False.elim hq
      | brk => exact False.elim hq
      | cont => exact False.elim hq
/-- min(xs, key=f) -/
def rMinKey (K : PySem.W.Frag) (f : Addr) (pre : List PyData → Prop) (g : List PyData → PyData) : List V → List V → Hp → VK → Prop := fun vs zs H Q => ∃ (l : Addr) (xs : List V) (ds : List PyData), vs = [.ref l] ∧ zs = [.ref f] ∧ SqL K H l xs ∧ DpAll K H xs ds ∧ (∀ d ∈ ds, pre [d]) ∧
  (∀ d ∈ ds, g [d] ≠ .none ∧ (g [d]).depth ≤ 50) ∧ PySem.W.AllAlike (ds.map fun d => g [d]) ∧ 0 < ds.length ∧ ∀ x d G, ds[argBest (btD (ds.map fun d => g [d])) (ds.length - 1)]? = some d → Ex H G → Dp K G x d → Q x G
theorem cr_minKey {k : Nat} {f : Addr} {fd : FuncData} {x : Str} {pre : List PyData → Prop} {g : List PyData → PyData} (F : FnOk X.prog X.w X.K X.mg X.base C8.CX0 k f fd [x] (AsSort.spP X.K pre g)) (hr : Room (k + 1) X.A) (hb : Binds X.K fd [x] []) : CallRK X (.builtin "min") [Str.ofString "key"] (rMinKey X.K f pre g) := by
  intro pins s σ H vs zs us ws Q I r rz h
  obtain ⟨l, xs, ds, rfl, rfl, hs, hd, hp, hdep, hal, hn, q⟩ := h
  obtain rfl := Vals.ref1 r
  obtain ⟨w1, rfl, e1⟩ := vals1 rz
  obtain rfl : w1 = Value.ref f := e1
  have hl : xs.length = ds.length := AsSort.dpAll_len hd
  refine min_run hr.hd I hs (keysD_of F hr hb hd hp) (by rw [List.length_map]; omega) (fun d hm => ?_) hal (by omega) fun x G hx e => ?_
  · obtain ⟨d0, h0, rfl⟩ := List.mem_map.mp hm
    have h1 := hdep d0 h0
    have h2 := hr.un
    refine ⟨h1.1, ?_⟩
    have := h1.2
    show X.A.units + 1 + (g [d0]).depth < cLine
    omega
  · rw [hl] at hx
    have hlt : argBest (btD (ds.map fun d => g [d])) (ds.length - 1) < ds.length := by
      have := (List.getElem?_eq_some_iff.mp hx).1
      omega
    exact q x _ G (List.getElem?_eq_getElem hlt) e (AsSort.dp_ex e (AsSort.dpAll_get hd hx (List.getElem?_eq_getElem hlt)))
end
end AsMin

set_option maxHeartbeats 4000000
set_option autoImplicit false
/-! copies by how many deeds, and which of them a mender does not bring back: told without the program. -/
namespace K24
open PySem PySem.Spec PySem.W PyProof.Rows L2 AsSort AsKit AsMax AsMin
theorem mendN_fuel {y : Str} {ps : List (Str × Str)} (hm : Men y ps) : ∀ (n m : Nat) (z : Str), z.length < n → z.length < m → mendN ps n z = mendN ps m z
  | 0, _, z, h, _ => absurd h (Nat.not_lt_zero _)
  | _, 0, z, _, h => absurd h (Nat.not_lt_zero _)
  | n + 1, m + 1, z, h1, h2 => by
    cases hk : nextK ps z with
    | none => rw [mend_none hk, mend_none hk]
    | some pk =>
      obtain ⟨p, k⟩ := pk
      have l := next_less hm hk
      rw [mend_some hk, mend_some hk, mendN_fuel hm n m (bhS z p k) (by omega) (by omega)]
/-- the text to which a mender leads -/
def EM (ps : List (Str × Str)) (z : Str) : Str := (mend ps z).2
theorem em_none {ps : List (Str × Str)} {z : Str} (h : nextK ps z = none) : EM ps z = z := by unfold EM; rw [mend_fix h]
theorem em_step {y : Str} {ps : List (Str × Str)} {z : Str} {p : Nat} {k : Str × Str} (hm : Men y ps) (h : nextK ps z = some (p, k)) : EM ps z = EM ps (bhS z p k) := by
  unfold EM mend
  have l := next_less hm h
  rw [mend_some h]
  show (mendN ps z.length (bhS z p k)).2 = _
  rw [mendN_fuel hm z.length ((bhS z p k).length + 1) (bhS z p k) l (Nat.lt_succ_self _)]
/-- the order of texts -/
def leT (a b : Str) : Bool := !dataLt (oT b) (oT a)
theorem toksT (z : Str) : keyToks (oT z) = [.inl 1, .inl (z.length : Int), .inl 1, .inr z.cps.toList, .inl 0] := by
  simp [oT, keyToks, keyToksAll]
theorem toksT_inj {a b : Str} (h : keyToks (oT a) = keyToks (oT b)) : a = b := by
  rw [toksT, toksT] at h
  simp only [List.cons.injEq, Sum.inl.injEq, Sum.inr.injEq, true_and, and_true] at h
  exact len_eqS h.2
theorem ltT_trans {a b c : Str} (h1 : dataLt (oT a) (oT b) = true) (h2 : dataLt (oT b) (oT c) = true) : dataLt (oT a) (oT c) = true := lex_trans (O := itemOrd) _ _ _ h1 h2
theorem ltT_irrefl (a : Str) : dataLt (oT a) (oT a) = false := lex_irrefl (O := itemOrd) _
theorem leT_anti {a b : Str} (h1 : leT a b = true) (h2 : leT b a = true) : a = b := by
  unfold leT at h1 h2
  exact toksT_inj (lex_total (O := itemOrd) _ _ ((Bool.not_eq_true' _).mp h2) ((Bool.not_eq_true' _).mp h1))
theorem leT_total (a b : Str) : (leT a b || leT b a) = true := by
  unfold leT
  cases h1 : dataLt (oT b) (oT a) with
  | false => rfl
  | true =>
    cases h2 : dataLt (oT a) (oT b) with
    | false => rfl
    | true =>
      have z := ltT_trans h1 h2
      rw [ltT_irrefl] at z
      cases z
theorem leT_trans (a b c : Str) (h1 : leT a b = true) (h2 : leT b c = true) : leT a c = true := by
  unfold leT at *
  rw [Bool.not_eq_true'] at *
  cases h : dataLt (oT c) (oT a) with
  | false => rfl
  | true =>
    cases h3 : dataLt (oT a) (oT b) with
    | true =>
      have z := ltT_trans h h3
      rw [h2] at z
      cases z
    | false =>
      have e := toksT_inj (lex_total (O := itemOrd) _ _ h1 h3)
      rw [e] at h2
      rw [h] at h2
      cases h2
def sortT (ss : List Str) : List Str := ss.mergeSort leT
theorem sortD_texts (ss : List Str) : sortD (fun d => one ordT [d]) (ss.map PyData.str) = (sortT ss).map PyData.str := by
  unfold sortD sortT
  refine (List.map_mergeSort fun a _ b _ => ?_).symm
  rw [dataLe_eq]
  rfl
/-- the first least one -/
def minT (ss : List Str) : Str := ss.getD (argBest (btD (ss.map oT)) (ss.length - 1)) ""
theorem best_least (b2 : Nat → Nat → Bool) (tr : ∀ i j k, b2 i j = true → b2 j k = true → b2 i k = true) (ir : ∀ i, b2 i i = false) : ∀ k, argBest b2 k ≤ k ∧ ∀ j, j ≤ k → b2 j (argBest b2 k) = false
  | 0 => ⟨Nat.le_refl _, fun j h => by rw [Nat.le_zero.mp h]; exact ir 0⟩
  | k + 1 => by
    obtain ⟨h1, h2⟩ := best_least b2 tr ir k
    show (if b2 (k + 1) (argBest b2 k) = true then k + 1 else argBest b2 k) ≤ k + 1 ∧ ∀ j, j ≤ k + 1 → b2 j (if b2 (k + 1) (argBest b2 k) = true then k + 1 else argBest b2 k) = false
    by_cases h : b2 (k + 1) (argBest b2 k) = true
    · rw [if_pos h]
      refine ⟨Nat.le_refl _, fun j hj => ?_⟩
      rcases Nat.lt_or_eq_of_le hj with hj | rfl
      · cases q : b2 j (k + 1) with
        | false => rfl
        | true =>
          have := tr _ _ _ q h
          rw [h2 j (by omega)] at this
          cases this
      · exact ir _
    · rw [if_neg h]
      refine ⟨by omega, fun j hj => ?_⟩
      rcases Nat.lt_or_eq_of_le hj with hj | rfl
      · exact h2 j (by omega)
      · simpa using h
theorem btD_str (ss : List Str) (i j : Nat) (a b : Str) (h1 : ss[i]? = some a) (h2 : ss[j]? = some b) : btD (ss.map oT) i j = dataLt (oT a) (oT b) := (btD_of (by rw [List.getElem?_map, h1]; rfl) (by rw [List.getElem?_map, h2]; rfl)).symm
theorem oTs_get (ss : List Str) (i : Nat) : (∃ a, ss[i]? = some a ∧ (ss.map oT).getD i .none = oT a) ∨ (ss.map oT).getD i .none = .none := by
  cases h : ss[i]? with
  | some a => exact .inl ⟨a, rfl, by rw [List.getD_eq_getElem?_getD, List.getElem?_map, h]; rfl⟩
  | none => exact .inr (by rw [List.getD_eq_getElem?_getD, List.getElem?_map, h]; rfl)
theorem minT_at {ss : List Str} (h : 0 < ss.length) : ss[argBest (btD (ss.map oT)) (ss.length - 1)]? = some (minT ss) ∧ ∀ x ∈ ss, leT (minT ss) x = true := by
  have tr : ∀ i j k, btD (ss.map oT) i j = true → btD (ss.map oT) j k = true → btD (ss.map oT) i k = true := fun i j k h1 h2 => lex_trans (O := itemOrd) _ _ _ h1 h2
  have ir : ∀ i, btD (ss.map oT) i i = false := fun i => lex_irrefl (O := itemOrd) _
  obtain ⟨p1, p2⟩ := best_least (btD (ss.map oT)) tr ir (ss.length - 1)
  have hl : argBest (btD (ss.map oT)) (ss.length - 1) < ss.length := by omega
  have e : ss[argBest (btD (ss.map oT)) (ss.length - 1)]? = some (minT ss) := by
    unfold minT
    rw [List.getD_eq_getElem?_getD, List.getElem?_eq_getElem hl]
    rfl
  refine ⟨e, fun x hx => ?_⟩
  obtain ⟨i, hi⟩ := List.mem_iff_getElem?.mp hx
  have hlt := (List.getElem?_eq_some_iff.mp hi).1
  have z := p2 i (by omega)
  rw [btD_str ss _ _ x (minT ss) hi e] at z
  unfold leT
  rw [z]
  rfl
theorem minT_mem {ss : List Str} (h : 0 < ss.length) : minT ss ∈ ss := List.mem_of_getElem? (minT_at h).1
/-- the first of the sorted ones -/
theorem sort_first {ss : List Str} (f : Str → Bool) (h : ss.filter f ≠ []) : ((sortT ss).filter f)[0]? = some (minT (ss.filter f)) := by
  have pm : ((sortT ss).filter f).Perm (ss.filter f) := (List.mergeSort_perm ss leT).filter f
  have hl := List.length_pos_iff.mpr h
  have pw : ((sortT ss).filter f).Pairwise fun a b => leT a b = true := List.Pairwise.sublist List.filter_sublist (List.pairwise_mergeSort (le := leT) leT_trans leT_total ss)
  cases hs : (sortT ss).filter f with
  | nil =>
    rw [hs] at pm
    exact absurd (pm.symm.eq_nil) h
  | cons x xs =>
    rw [hs] at pm pw
    show some x = _
    refine congrArg some ?_
    have hm := minT_mem hl
    have h1 : leT (minT (ss.filter f)) x = true := (minT_at hl).2 x (pm.mem_iff.mp (List.mem_cons_self ..))
    refine leT_anti ?_ h1
    rcases List.mem_cons.mp (pm.mem_iff.mpr hm) with e | e
    · rw [e] at h1 ⊢
      exact h1
    · exact (List.pairwise_cons.mp pw).1 _ e
/-! copies -/
def stepG (s : List Str × List Str) (c : Str) : List Str × List Str := if c ∈ s.1 then s else (s.1 ++ [c], s.2 ++ [c])
def stepL (ks : List (Str × Str)) (s : List Str × List Str) (t : Str) : List Str × List Str := (behinds ks t).foldl stepG s
def nextLv (ks : List (Str × Str)) (sn lv : List Str) : List Str × List Str := lv.foldl (stepL ks) (sn, [])
def lvl (ks : List (Str × Str)) (z : Str) : Nat → List Str × List Str
  | 0 => ([z], [z])
  | c + 1 => nextLv ks (lvl ks z c).1 (lvl ks z c).2
def wr (ms ks : List (Str × Str)) (z : Str) (c : Nat) : List Str := (lvl ks z c).2.filter fun s => !decide (EM ms s = z)
def firstBad (ms ks : List (Str × Str)) (z : Str) (n : Nat) : Option Str := ((List.range n).find? fun c => decide (wr ms ks z c ≠ [])).map fun c => minT (wr ms ks z c)
def failAll (ms ks : List (Str × Str)) (n : Nat) (ts : List Str) : Option (Str × Str) := ts.findSome? fun z => (firstBad ms ks z n).map fun s => (z, s)
theorem stepG_len (s : List Str × List Str) (c : Str) : (stepG s c).1.length ≤ s.1.length + 1 ∧ (stepG s c).2.length ≤ s.2.length + 1 := by
  unfold stepG
  split
  · exact ⟨by omega, by omega⟩
  · exact ⟨by simp, by simp⟩
theorem foldG_len (cs : List Str) : ∀ s : List Str × List Str, (cs.foldl stepG s).1.length ≤ s.1.length + cs.length ∧ (cs.foldl stepG s).2.length ≤ s.2.length + cs.length := by
  induction cs with
  | nil => exact fun s => ⟨Nat.le_refl _, Nat.le_refl _⟩
  | cons c cs ih =>
    intro s
    have h1 := ih (stepG s c)
    have h2 := stepG_len s c
    show (cs.foldl stepG (stepG s c)).1.length ≤ _ ∧ (cs.foldl stepG (stepG s c)).2.length ≤ _
    rw [List.length_cons]
    omega
theorem behinds_len {ks : List (Str × Str)} {t : Str} : (behinds ks t).length ≤ (t.length + 1) * ks.length := by
  unfold behinds deedsL
  rw [List.length_map]
  have := hitsTo_len (sortO ks) t (t.length + 1)
  rw [sortO_len] at this
  exact this
theorem foldL_len {ks : List (Str × Str)} {B : Nat} : ∀ (lv : List Str) (s : List Str × List Str), (∀ t ∈ lv, (behinds ks t).length ≤ B) → (lv.foldl (stepL ks) s).1.length ≤ s.1.length + lv.length * B ∧ (lv.foldl (stepL ks) s).2.length ≤ s.2.length + lv.length * B
  | [], s, _ => by simp
  | t :: lv, s, h => by
    have h1 := foldL_len (ks := ks) (B := B) lv (stepL ks s t) fun x hx => h x (List.mem_cons_of_mem _ hx)
    have h2 := foldG_len (behinds ks t) s
    have h3 := h t (List.mem_cons_self ..)
    show (lv.foldl (stepL ks) (stepL ks s t)).1.length ≤ _ ∧ (lv.foldl (stepL ks) (stepL ks s t)).2.length ≤ _
    have e : (lv.length + 1) * B = lv.length * B + B := Nat.succ_mul _ _
    rw [List.length_cons, e]
    unfold stepL at *
    omega
/-- all that is found has a property that deeds keep -/
theorem foldG_all {Pr : Str → Prop} (cs : List Str) : ∀ s : List Str × List Str, (∀ c ∈ cs, Pr c) → (∀ c ∈ s.2, Pr c) → ∀ c ∈ (cs.foldl stepG s).2, Pr c := by
  induction cs with
  | nil => exact fun s _ h => h
  | cons c cs ih =>
    intro s h1 h2
    refine ih (stepG s c) (fun x hx => h1 x (List.mem_cons_of_mem _ hx)) fun x hx => ?_
    unfold stepG at hx
    split at hx
    · exact h2 x hx
    · rcases List.mem_append.mp hx with hx | hx
      · exact h2 x hx
      · rw [List.mem_singleton.mp hx]
        exact h1 c (List.mem_cons_self ..)
theorem foldL_all {ks : List (Str × Str)} {Pr : Str → Prop} : ∀ (lv : List Str) (s : List Str × List Str), (∀ t ∈ lv, ∀ c ∈ behinds ks t, Pr c) → (∀ c ∈ s.2, Pr c) → ∀ c ∈ (lv.foldl (stepL ks) s).2, Pr c
  | [], s, _, h => h
  | t :: lv, s, h1, h2 => foldL_all (ks := ks) lv (stepL ks s t) (fun x hx => h1 x (List.mem_cons_of_mem _ hx)) (foldG_all _ s (h1 t (List.mem_cons_self ..)) h2)
theorem deed_in {ks : List (Str × Str)} {z : Str} {d : PyData} (h : d ∈ deedsL ks z) : ∃ p k, d = dD p k ∧ k ∈ ks ∧ hitB z p k = true ∧ p ≤ z.length := by
  obtain ⟨p, h1, h2⟩ := List.mem_flatMap.mp h
  obtain ⟨k, hk, rfl⟩ := List.mem_map.mp h2
  obtain ⟨k1, k2⟩ := List.mem_filter.mp hk
  exact ⟨p, k, rfl, sortO_mem.mp k1, k2, Nat.lt_succ_iff.mp (List.mem_range.mp h1)⟩
/-- texts of the letters, of a length -/
def TxOk (y : Str) (n : Nat) (t : Str) : Prop := t.length ≤ n ∧ allIn y t = true
theorem behind_ok {y : Str} {ks : List (Str × Str)} (hk : ∀ k ∈ ks, Gd y k) {n : Nat} {t : Str} (ht : TxOk y n t) : ∀ c ∈ behinds ks t, TxOk y (n + 1) c := fun c hc => by
  obtain ⟨d, hd, rfl⟩ := List.mem_map.mp hc
  obtain ⟨p, k, rfl, h1, h2, h3⟩ := deed_in hd
  have g := hk k h1
  show TxOk y (n + 1) (bhS t p k)
  refine ⟨?_, bh_in ht.2 g.2.2.2.1⟩
  have hh := hit_len h2
  have l1 := ht.1
  have l2 := g.2.1
  by_cases h0 : p + k.1.length ≤ t.length
  · have := bh_len (z := t) (p := p) (k := k) h0
    omega
  · have z0 : k.1.length = 0 := hh.resolve_left h0
    omega
theorem lvl_ok {y : Str} {ks : List (Str × Str)} (hk : ∀ k ∈ ks, Gd y k) {n : Nat} {z : Str} (hz : TxOk y n z) : ∀ c, ∀ s ∈ (lvl ks z c).2, TxOk y (n + c) s
  | 0 => fun s hs => by rw [List.mem_singleton.mp hs]; exact hz
  | c + 1 => fun s hs => foldL_all (Pr := TxOk y (n + c + 1)) _ _ (fun t ht x hx => behind_ok hk (lvl_ok hk hz c t ht) x hx) (fun x h => absurd h List.not_mem_nil) s hs
theorem range_find {p : Nat → Bool} (n : Nat) : (List.range (n + 1)).find? p = ((List.range n).find? p).or (if p n = true then some n else none) := by
  rw [List.range_succ, List.find?_append]
  congr 1
  simp [List.find?_cons]
  split <;> simp_all
end K24

set_option maxHeartbeats 4000000
set_option autoImplicit false
/-! overlaps: words over signs, kinds that shorten; a word of two ends has one of at most 2 L - 1 signs. -/
namespace K24
abbrev Wd : Type := List Nat
abbrev Kd : Type := Wd × Wd
def Step (ks : List Kd) (w w' : Wd) : Prop := ∃ x y k, k ∈ ks ∧ w = x ++ (k.1 ++ y) ∧ w' = x ++ (k.2 ++ y)
inductive Star (ks : List Kd) : Wd → Wd → Prop
  | refl (w : Wd) : Star ks w w
  | step {w a b : Wd} : Step ks w a → Star ks a b → Star ks w b
def Nf (ks : List Kd) (w u : Wd) : Prop := Star ks w u ∧ ∀ c, ¬ Step ks u c
def Uq (ks : List Kd) (w : Wd) : Prop := ∀ u v, Nf ks w u → Nf ks w v → u = v
def Sh (ks : List Kd) : Prop := ∀ k ∈ ks, k.2.length < k.1.length
variable {ks : List Kd}
theorem Star.trans {a b c : Wd} (h : Star ks a b) (g : Star ks b c) : Star ks a c := by
  induction h with
  | refl => exact g
  | step s _ ih => exact .step s (ih g)
theorem Star.one {a b : Wd} (h : Step ks a b) : Star ks a b := .step h (.refl b)
theorem Step.ctx {a b : Wd} (h : Step ks a b) (x y : Wd) : Step ks (x ++ (a ++ y)) (x ++ (b ++ y)) := by
  obtain ⟨p, q, k, hk, rfl, rfl⟩ := h
  exact ⟨x ++ p, q ++ y, k, hk, by simp, by simp⟩
theorem Star.ctx {a b : Wd} (h : Star ks a b) (x y : Wd) : Star ks (x ++ (a ++ y)) (x ++ (b ++ y)) := by
  induction h with
  | refl => exact .refl _
  | step s _ ih => exact .step (s.ctx x y) ih
theorem step_less (sh : Sh ks) {a b : Wd} (h : Step ks a b) : b.length < a.length := by
  obtain ⟨x, y, k, hk, rfl, rfl⟩ := h
  have := sh k hk
  simp only [List.length_append]
  omega
theorem nf_ex (sh : Sh ks) : ∀ (n : Nat) (w : Wd), w.length < n → ∃ u, Nf ks w u
  | 0, w, h => absurd h (Nat.not_lt_zero _)
  | n + 1, w, h => by
    by_cases r : ∃ c, Step ks w c
    · obtain ⟨c, hc⟩ := r
      have := step_less sh hc
      obtain ⟨u, hu⟩ := nf_ex sh n c (by omega)
      exact ⟨u, .step hc hu.1, hu.2⟩
    · exact ⟨w, .refl w, fun c hc => r ⟨c, hc⟩⟩
theorem nf_exists (sh : Sh ks) (w : Wd) : ∃ u, Nf ks w u := nf_ex sh (w.length + 1) w (Nat.lt_succ_self _)
/-- over the signs Y -/
def Ov (Y : Nat → Prop) (w : Wd) : Prop := ∀ c ∈ w, Y c
theorem Ov.step {Y : Nat → Prop} (hk : ∀ k ∈ ks, Ov Y k.2) {a b : Wd} (h : Step ks a b) (o : Ov Y a) : Ov Y b := by
  obtain ⟨x, y, k, hk1, rfl, rfl⟩ := h
  intro c hc
  rcases List.mem_append.mp hc with hc | hc
  · exact o c (List.mem_append_left _ hc)
  · rcases List.mem_append.mp hc with hc | hc
    · exact hk k hk1 c hc
    · exact o c (List.mem_append_right _ (List.mem_append_right _ hc))
/-- a middle part that has one end joins what comes of it -/
theorem join_mid (sh : Sh ks) {m m1 m2 x s : Wd} (h1 : Step ks m m1) (h2 : Step ks m m2) (u : Uq ks m) : ∃ d, Star ks (x ++ (m1 ++ s)) d ∧ Star ks (x ++ (m2 ++ s)) d := by
  obtain ⟨e1, n1⟩ := nf_exists sh m1
  obtain ⟨e2, n2⟩ := nf_exists sh m2
  have e := u e1 e2 ⟨.step h1 n1.1, n1.2⟩ ⟨.step h2 n2.1, n2.2⟩
  subst e
  exact ⟨x ++ (e1 ++ s), n1.1.ctx x s, n2.1.ctx x s⟩
/-- the first deed stands no further right -/
theorem join_le (sh : Sh ks) {Y : Nat → Prop} {L : Nat} (hL : ∀ k ∈ ks, k.1.length ≤ L) (base : ∀ w, Ov Y w → w.length ≤ 2 * L - 1 → Uq ks w) {x1 y1 a y2 : Wd} {k1 k2 : Kd} (hk1 : k1 ∈ ks) (hk2 : k2 ∈ ks) (o : Ov Y (x1 ++ (k1.1 ++ y1))) (e : k1.1 ++ y1 = a ++ (k2.1 ++ y2)) :
    ∃ d, Star ks (x1 ++ (k1.2 ++ y1)) d ∧ Star ks ((x1 ++ a) ++ (k2.2 ++ y2)) d := by
  have s1 := sh k1 hk1
  have s2 := sh k2 hk2
  have l1 := hL k1 hk1
  have l2 := hL k2 hk2
  have far : ∀ b, a = k1.1 ++ b → y1 = b ++ (k2.1 ++ y2) → ∃ d, Star ks (x1 ++ (k1.2 ++ y1)) d ∧ Star ks ((x1 ++ a) ++ (k2.2 ++ y2)) d := by
    intro b ea ey
    subst ea ey
    refine ⟨x1 ++ (k1.2 ++ (b ++ (k2.2 ++ y2))), .one ⟨x1 ++ (k1.2 ++ b), y2, k2, hk2, by simp, by simp⟩, .one ⟨x1, b ++ (k2.2 ++ y2), k1, hk1, by simp, by simp⟩⟩
  rcases List.append_eq_append_iff.mp e with ⟨b, ea, ey⟩ | ⟨c, ek, ey⟩
  · exact far b ea ey
  · by_cases hc : c = []
    · subst hc
      rw [List.append_nil] at ek
      rw [List.nil_append] at ey
      exact far [] (by rw [ek, List.append_nil]) (by rw [List.nil_append]; exact ey.symm)
    · have hcl : 0 < c.length := List.length_pos_iff.mpr hc
      rcases List.append_eq_append_iff.mp ey with ⟨d, ec, ey2⟩ | ⟨d, ek2, ey1⟩
      · -- c = k2.1 ++ d, y2 = d ++ y1: all within k1.1
        have em : k1.1 = a ++ (k2.1 ++ d) := by rw [ek, ec]
        have u := base k1.1 (fun c hc => o c (List.mem_append_right _ (List.mem_append_left _ hc))) (by omega)
        obtain ⟨t, t1, t2⟩ := join_mid sh (m := k1.1) (m1 := k1.2) (m2 := a ++ (k2.2 ++ d)) (x := x1) (s := y1) ⟨[], [], k1, hk1, by simp, by simp⟩ ⟨a, d, k2, hk2, em, rfl⟩ u
        refine ⟨t, t1, ?_⟩
        have e2 : (x1 ++ a) ++ (k2.2 ++ y2) = x1 ++ ((a ++ (k2.2 ++ d)) ++ y1) := by rw [ey2]; simp
        rw [e2]
        exact t2
      · -- k2.1 = c ++ d, y1 = d ++ y2
        have len1 : k1.1.length = a.length + c.length := by rw [ek, List.length_append]
        have len2 : k2.1.length = c.length + d.length := by rw [ek2, List.length_append]
        have em : k1.1 ++ d = a ++ (k2.1 ++ []) := by rw [ek, ek2]; simp
        have om : Ov Y (k1.1 ++ d) := fun q hq => by
          rcases List.mem_append.mp hq with hq | hq
          · exact o q (List.mem_append_right _ (List.mem_append_left _ hq))
          · exact o q (List.mem_append_right _ (List.mem_append_right _ (by rw [ey1]; exact List.mem_append_left _ hq)))
        have u := base (k1.1 ++ d) om (by rw [List.length_append]; omega)
        obtain ⟨t, t1, t2⟩ := join_mid sh (m := k1.1 ++ d) (m1 := k1.2 ++ d) (m2 := a ++ (k2.2 ++ [])) (x := x1) (s := y2) ⟨[], d, k1, hk1, by simp, by simp⟩ ⟨a, [], k2, hk2, em, rfl⟩ u
        refine ⟨t, ?_, ?_⟩
        · have e2 : x1 ++ (k1.2 ++ y1) = x1 ++ ((k1.2 ++ d) ++ y2) := by rw [ey1]; simp
          rw [e2]
          exact t1
        · have e2 : (x1 ++ a) ++ (k2.2 ++ y2) = x1 ++ ((a ++ (k2.2 ++ [])) ++ y2) := by simp
          rw [e2]
          exact t2
theorem join (sh : Sh ks) {Y : Nat → Prop} {L : Nat} (hL : ∀ k ∈ ks, k.1.length ≤ L) (base : ∀ w, Ov Y w → w.length ≤ 2 * L - 1 → Uq ks w) {w c1 c2 : Wd} (o : Ov Y w) (h1 : Step ks w c1) (h2 : Step ks w c2) : ∃ d, Star ks c1 d ∧ Star ks c2 d := by
  obtain ⟨x1, y1, k1, hk1, e1, rfl⟩ := h1
  obtain ⟨x2, y2, k2, hk2, e2, rfl⟩ := h2
  rcases List.append_eq_append_iff.mp (e1.symm.trans e2) with ⟨a, ea, ey⟩ | ⟨a, ea, ey⟩
  · subst ea
    exact join_le sh hL base hk1 hk2 (e1 ▸ o) ey
  · subst ea
    obtain ⟨d, d1, d2⟩ := join_le sh hL base hk2 hk1 (e2 ▸ o) ey
    exact ⟨d, d2, d1⟩
/-- no overlap among the short ones: none at all -/
theorem crit (sh : Sh ks) {Y : Nat → Prop} {L : Nat} (hL : ∀ k ∈ ks, k.1.length ≤ L) (hY : ∀ k ∈ ks, Ov Y k.2) (base : ∀ w, Ov Y w → w.length ≤ 2 * L - 1 → Uq ks w) : ∀ (n : Nat) (w : Wd), w.length < n → Ov Y w → Uq ks w
  | 0, w, h, _ => absurd h (Nat.not_lt_zero _)
  | n + 1, w, h, o => fun u v hu hv => by
    obtain ⟨su, nu⟩ := hu
    obtain ⟨sv, nv⟩ := hv
    cases su with
    | refl =>
      cases sv with
      | refl => rfl
      | step s _ => exact absurd s (nu _)
    | step s1 r1 =>
      rename_i c1
      cases sv with
      | refl => exact absurd s1 (nv _)
      | step s2 r2 =>
        rename_i c2
        obtain ⟨d, d1, d2⟩ := join sh hL base o s1 s2
        obtain ⟨e, he⟩ := nf_exists sh d
        have l1 := step_less sh s1
        have l2 := step_less sh s2
        have u1 := crit sh hL hY base n c1 (by omega) (Ov.step hY s1 o) u e ⟨r1, nu⟩ ⟨d1.trans he.1, he.2⟩
        have u2 := crit sh hL hY base n c2 (by omega) (Ov.step hY s2 o) v e ⟨r2, nv⟩ ⟨d2.trans he.1, he.2⟩
        exact u1.trans u2.symm
end K24

set_option maxHeartbeats 4000000
set_option autoImplicit false
/-! texts as words; ends; the first text of two ends. -/
namespace K24
open PySem PySem.Spec PySem.W PyProof.Rows L2 AsSort AsKit AsMax AsMin
def oneS (c : Nat) : Str := ⟨#[c]⟩
def nextT (y : Str) (ts : List Str) : List Str := ts.flatMap fun t => y.cps.toList.map fun c => t ++ oneS c
def lastT (y : Str) : Nat → List Str
  | 0 => [""]
  | n + 1 => nextT y (lastT y n)
def allT (y : Str) : Nat → List Str
  | 0 => [""]
  | n + 1 => allT y n ++ lastT y (n + 1)
theorem next_len (y : Str) : ∀ ts : List Str, (nextT y ts).length = ts.length * y.length
  | [] => by simp [nextT]
  | t :: ts => by
    have e : nextT y (t :: ts) = (y.cps.toList.map fun c => t ++ oneS c) ++ nextT y ts := rfl
    have h : y.cps.toList.length = y.length := Array.length_toList
    rw [e, List.length_append, List.length_map, next_len y ts, h, List.length_cons, Nat.succ_mul]
    omega
theorem last_len {y : Str} (h : y.length ≤ 4) : ∀ n, (lastT y n).length ≤ 4 ^ n
  | 0 => Nat.le_refl _
  | n + 1 => by
    show (nextT y (lastT y n)).length ≤ _
    rw [next_len, Nat.pow_succ]
    exact Nat.mul_le_mul (last_len h n) h
theorem last_len2 {y : Str} (h : y.length ≤ 4) {n : Nat} (hn : n ≤ 5) : (lastT y n).length ≤ 1024 := by
  have := last_len h n
  have h2 : 4 ^ n ≤ 4 ^ 5 := Nat.pow_le_pow_right (by decide) hn
  have h3 : 4 ^ 5 = 1024 := by decide
  omega
theorem all_len {y : Str} (h : y.length ≤ 4) : ∀ n, n ≤ 5 → (allT y n).length ≤ (n + 1) * 1024
  | 0, _ => by show 1 ≤ _; decide
  | n + 1, hn => by
    show (allT y n ++ lastT y (n + 1)).length ≤ _
    rw [List.length_append]
    have h1 := all_len h n (by omega)
    have h2 := last_len2 h hn
    omega
theorem last_tl {y : Str} : ∀ n, ∀ t ∈ lastT y n, t.length = n
  | 0, t, ht => by rw [List.mem_singleton.mp ht]; rfl
  | n + 1, t, ht => by
    obtain ⟨s, hs, h2⟩ := List.mem_flatMap.mp ht
    obtain ⟨c, hc, rfl⟩ := List.mem_map.mp h2
    have := last_tl n s hs
    rw [add_len, this]
    rfl
abbrev cv (t : Str) : Wd := t.cps.toList
def kcs (ms : List (Str × Str)) : List Kd := ms.map fun k => (cv k.1, cv k.2)
theorem cv_app (a b : Str) : cv (a ++ b) = cv a ++ cv b := Array.toList_append
theorem cv_len (a : Str) : (cv a).length = a.length := Array.length_toList
theorem cv_inj {a b : Str} (h : cv a = cv b) : a = b := len_eqS h
theorem bh_cv (z : Str) (p : Nat) (k : Str × Str) : cv (bhS z p k) = (cv z).take p ++ (cv k.2 ++ (cv z).drop (p + k.1.length)) := by
  unfold bhS
  rw [cv_app, cv_app, List.append_assoc]
  show _ ++ _ = _
  rw [show cv (cutS z none (some (p : Int))) = (cv z).take p from cut_to z p, show cv (cutS z (some ((p + k.1.length : Nat) : Int)) none) = (cv z).drop (p + k.1.length) from cut_from z _]
theorem deed_mem {ps : List (Str × Str)} {z : Str} {p : Nat} {kk : Str × Str} (hk : kk ∈ ps) (hp : p ≤ z.length) (h : hitB z p kk = true) : dD p kk ∈ deedsL ps z :=
  List.mem_flatMap.mpr ⟨p, List.mem_range.mpr (by omega), List.mem_map.mpr ⟨kk, List.mem_filter.mpr ⟨sortO_mem.mpr hk, h⟩, rfl⟩⟩
theorem bh_mem {ps : List (Str × Str)} {z : Str} {p : Nat} {kk : Str × Str} (hk : kk ∈ ps) (hp : p ≤ z.length) (h : hitB z p kk = true) : bhS z p kk ∈ behinds ps z := List.mem_map.mpr ⟨_, deed_mem hk hp h, rfl⟩
theorem mem_bh {ps : List (Str × Str)} {z c : Str} (h : c ∈ behinds ps z) : ∃ p k, k ∈ ps ∧ p ≤ z.length ∧ hitB z p k = true ∧ c = bhS z p k := by
  obtain ⟨d, hd, rfl⟩ := List.mem_map.mp h
  obtain ⟨p, k, rfl, h1, h2, h3⟩ := deed_in hd
  exact ⟨p, k, h1, h3, h2, rfl⟩
theorem step_of {ms : List (Str × Str)} {z c : Str} (h : c ∈ behinds ms z) : Step (kcs ms) (cv z) (cv c) := by
  obtain ⟨p, k, hk, hp, hh, rfl⟩ := mem_bh h
  refine ⟨(cv z).take p, (cv z).drop (p + k.1.length), (cv k.1, cv k.2), List.mem_map.mpr ⟨k, hk, rfl⟩, ?_, bh_cv z p k⟩
  have e : ((cv z).drop p).take k.1.length = cv k.1 := of_decide_eq_true hh
  show cv z = (cv z).take p ++ (cv k.1 ++ _)
  rw [← e, ← List.drop_drop, List.take_append_drop, List.take_append_drop]
theorem of_step {ms : List (Str × Str)} {z : Str} {w : Wd} (h : Step (kcs ms) (cv z) w) : ∃ c, c ∈ behinds ms z ∧ cv c = w := by
  obtain ⟨x, y, k', hk', e, rfl⟩ := h
  obtain ⟨k, hk, rfl⟩ := List.mem_map.mp hk'
  have e : cv z = x ++ (cv k.1 ++ y) := e
  have l1 := cv_len z
  have l2 := cv_len k.1
  have hp : x.length ≤ z.length := by rw [← l1, e, List.length_append]; omega
  have hh : hitB z x.length k = true := by
    refine decide_eq_true ?_
    show ((cv z).drop x.length).take k.1.length = cv k.1
    rw [e, List.drop_left, ← l2, List.take_left]
  refine ⟨bhS z x.length k, bh_mem hk hp hh, ?_⟩
  rw [bh_cv, e, List.take_left]
  show x ++ (cv k.2 ++ (x ++ (cv k.1 ++ y)).drop (x.length + k.1.length)) = _
  have ed : (x ++ (cv k.1 ++ y)).drop (x.length + k.1.length) = y := by
    rw [← l2, ← List.append_assoc, ← List.length_append, List.drop_left]
  rw [ed]
theorem sh_of {y : Str} {ms : List (Str × Str)} (hm : Men y ms) : Sh (kcs ms) := fun k' hk' => by
  obtain ⟨k, hk, rfl⟩ := List.mem_map.mp hk'
  show (cv k.2).length < (cv k.1).length
  rw [cv_len, cv_len]
  exact (hm k hk).2
theorem bh_less {y : Str} {ms : List (Str × Str)} (hm : Men y ms) {z c : Str} (h : c ∈ behinds ms z) : c.length < z.length := by
  have := step_less (sh_of hm) (step_of h)
  rw [cv_len, cv_len] at this
  exact this
theorem bh_over {y : Str} {ms : List (Str × Str)} (hm : Men y ms) {z c : Str} (hz : allIn y z = true) (h : c ∈ behinds ms z) : allIn y c = true := by
  obtain ⟨p, k, hk, hp, hh, rfl⟩ := mem_bh h
  exact bh_in hz (hm k hk).1.2.2.2.1
theorem next_bh {y : Str} {ms : List (Str × Str)} (hm : Men y ms) {z : Str} {p : Nat} {k : Str × Str} (h : nextK ms z = some (p, k)) : bhS z p k ∈ behinds ms z := by
  obtain ⟨f1, f2, f3, _⟩ := next_fit h
  exact bh_mem f2 (Nat.le_of_lt f1) f3
theorem next_none {y : Str} {ms : List (Str × Str)} (hm : Men y ms) {z : Str} (h : nextK ms z = none) : behinds ms z = [] := by
  refine List.eq_nil_iff_forall_not_mem.mpr fun c hc => ?_
  obtain ⟨p, k, hk, hp, hh, rfl⟩ := mem_bh hc
  have g := (hm k hk).2
  have hl := (hit_len hh).resolve_right (by omega)
  have hp2 : placeOf ms z = none := by
    unfold nextK at h
    exact Option.map_eq_none_iff.mp h
  have := List.find?_eq_none.mp hp2 p (List.mem_range.mpr (by omega))
  rw [decide_eq_true_eq] at this
  refine this fun e => ?_
  have hm2 : k ∈ fitsAt ms z p := List.mem_filter.mpr ⟨hk, hh⟩
  rw [e] at hm2
  exact absurd hm2 List.not_mem_nil
theorem nf_EM {y : Str} {ms : List (Str × Str)} (hm : Men y ms) : ∀ (n : Nat) (z : Str), z.length < n → Nf (kcs ms) (cv z) (cv (EM ms z))
  | 0, z, h => absurd h (Nat.not_lt_zero _)
  | n + 1, z, h => by
    cases hk : nextK ms z with
    | none =>
      rw [em_none hk]
      refine ⟨.refl _, fun c hc => ?_⟩
      obtain ⟨d, hd, _⟩ := of_step hc
      rw [next_none hm hk] at hd
      exact absurd hd List.not_mem_nil
    | some pk =>
      obtain ⟨p, k⟩ := pk
      have hb := next_bh hm hk
      have l := bh_less hm hb
      have ih := nf_EM hm n (bhS z p k) (by omega)
      rw [em_step hm hk]
      exact ⟨.step (step_of hb) ih.1, ih.2⟩
/-- what comes of the copies differs -/
def endsC (ms : List (Str × Str)) (t : Str) : List Str := (behinds ms t).map (EM ms)
def amb (ms : List (Str × Str)) (t : Str) : Bool := (endsC ms t).any fun e => !decide (e = (endsC ms t).headD "")
theorem em_head {y : Str} {ms : List (Str × Str)} (hm : Men y ms) {t : Str} (h : amb ms t = false) (hb : behinds ms t ≠ []) : EM ms t = (endsC ms t).headD "" := by
  cases hk : nextK ms t with
  | none => exact absurd (next_none hm hk) hb
  | some pk =>
    obtain ⟨p, k⟩ := pk
    rw [em_step hm hk]
    have hmem : EM ms (bhS t p k) ∈ endsC ms t := List.mem_map.mpr ⟨_, next_bh hm hk, rfl⟩
    have := List.any_eq_false.mp h _ hmem
    simpa using this
theorem amb_iff {y : Str} {ms : List (Str × Str)} (hm : Men y ms) {t : Str} (hs : ∀ c ∈ behinds ms t, Uq (kcs ms) (cv c)) : amb ms t = true ↔ ¬ Uq (kcs ms) (cv t) := by
  constructor
  · intro h u
    obtain ⟨e, he, hne⟩ := List.any_eq_true.mp h
    obtain ⟨c, hc, rfl⟩ := List.mem_map.mp he
    have n1 := nf_EM hm _ c (Nat.lt_succ_self _)
    cases hb : behinds ms t with
    | nil => rw [hb] at hc; exact absurd hc List.not_mem_nil
    | cons c0 cs =>
      have hc0 : c0 ∈ behinds ms t := by rw [hb]; exact List.mem_cons_self ..
      have n0 := nf_EM hm _ c0 (Nat.lt_succ_self _)
      have eq := u _ _ ⟨.step (step_of hc) n1.1, n1.2⟩ ⟨.step (step_of hc0) n0.1, n0.2⟩
      have eh : (endsC ms t).headD "" = EM ms c0 := by unfold endsC; rw [hb]; rfl
      rw [eh, cv_inj eq] at hne
      simp at hne
  · intro h
    cases ha : amb ms t with
    | true => rfl
    | false =>
      refine absurd ?_ h
      intro u v hu hv
      have all : ∀ w, Nf (kcs ms) (cv t) w → w = cv t ∧ behinds ms t = [] ∨ behinds ms t ≠ [] ∧ w = cv ((endsC ms t).headD "") := fun w hw => by
        obtain ⟨sw, nw⟩ := hw
        cases sw with
        | refl =>
          refine .inl ⟨rfl, List.eq_nil_iff_forall_not_mem.mpr fun c hc => nw _ (step_of hc)⟩
        | step s r =>
          obtain ⟨c, hc, rfl⟩ := of_step s
          have e := hs c hc w _ ⟨r, nw⟩ (nf_EM hm _ c (Nat.lt_succ_self _))
          have hmem : EM ms c ∈ endsC ms t := List.mem_map.mpr ⟨c, hc, rfl⟩
          have := List.any_eq_false.mp ha _ hmem
          refine .inr ⟨fun z => by rw [z] at hc; exact absurd hc List.not_mem_nil, ?_⟩
          rw [e]
          have : EM ms c = (endsC ms t).headD "" := by simpa using this
          rw [this]
      rcases all u hu with ⟨a, b⟩ | ⟨a, b⟩
      · rcases all v hv with ⟨a', b'⟩ | ⟨a', b'⟩
        · rw [a, a']
        · exact absurd b a'
      · rcases all v hv with ⟨a', b'⟩ | ⟨a', b'⟩
        · exact absurd b' a
        · rw [b, b']
end K24

set_option maxHeartbeats 4000000
set_option autoImplicit false
/-! the first text of two ends: by the program's words, by the law's. -/
namespace K24
open PySem PySem.Spec PySem.W PyProof.Rows L2 AsSort AsKit AsMax AsMin
theorem last_over {y : Str} : ∀ n, ∀ t ∈ lastT y n, allIn y t = true
  | 0, t, ht => by rw [List.mem_singleton.mp ht]; exact allIn_nil y
  | n + 1, t, ht => by
    obtain ⟨s, hs, h2⟩ := List.mem_flatMap.mp ht
    obtain ⟨c, hc, rfl⟩ := List.mem_map.mp h2
    exact allIn_app (last_over n s hs) (allIn_one hc)
theorem mem_last {y : Str} : ∀ (n : Nat) (c : Str), c.length = n → allIn y c = true → c ∈ lastT y n
  | 0, c, h, _ => by
    have : cv c = [] := List.length_eq_zero_iff.mp (by rw [cv_len]; exact h)
    have e : c = "" := cv_inj (this.trans (by decide +kernel))
    rw [e]
    exact List.mem_singleton.mpr rfl
  | n + 1, c, h, ha => by
    have hl : (cv c).length = n + 1 := (cv_len c).trans h
    have hne : cv c ≠ [] := fun e => by rw [e] at hl; cases hl
    have hsp := List.dropLast_concat_getLast hne
    obtain ⟨s, hs⟩ : ∃ s : Str, s = ⟨(cv c).dropLast.toArray⟩ := ⟨_, rfl⟩
    have cs : cv s = (cv c).dropLast := by rw [hs]
    have e : c = s ++ oneS ((cv c).getLast hne) := cv_inj (by rw [cv_app, cs]; exact hsp.symm)
    have ls : s.length = n := by rw [← cv_len, cs, List.length_dropLast, hl]; rfl
    have hall : ∀ q ∈ cv c, q ∈ cv y := fun q hq => by
      have := List.all_eq_true.mp ha q hq
      exact of_decide_eq_true this
    have has : allIn y s = true := allIn_sub ha fun q hq => by
      have hq : q ∈ cv s := hq
      rw [cs] at hq
      exact List.dropLast_subset _ hq
    rw [e]
    exact List.mem_flatMap.mpr ⟨s, mem_last n s ls has, List.mem_map.mpr ⟨_, hall _ (List.getLast_mem hne), rfl⟩⟩
theorem mem_all {y : Str} : ∀ (n : Nat) (c : Str), c.length ≤ n → allIn y c = true → c ∈ allT y n
  | 0, c, h, ha => mem_last 0 c (by omega) ha
  | n + 1, c, h, ha => by
    by_cases e : c.length = n + 1
    · exact List.mem_append_right _ (mem_last (n + 1) c e ha)
    · exact List.mem_append_left _ (mem_all n c (by omega) ha)
theorem all_mem {y : Str} : ∀ (n : Nat), ∀ t ∈ allT y n, t.length ≤ n ∧ allIn y t = true
  | 0, t, h => ⟨by rw [last_tl (y := y) 0 t h]; exact Nat.le_refl _, last_over (y := y) 0 t h⟩
  | n + 1, t, h => by
    rcases List.mem_append.mp h with h | h
    · have := all_mem n t h
      exact ⟨by omega, this.2⟩
    · exact ⟨by rw [last_tl (n + 1) t h]; exact Nat.le_refl _, last_over (n + 1) t h⟩
theorem all_sorted (y : Str) : ∀ n, (allT y n).Pairwise fun a b => a.length ≤ b.length
  | 0 => List.pairwise_singleton _ _
  | n + 1 => List.pairwise_append.mpr ⟨all_sorted y n, List.pairwise_of_forall_mem_list fun a ha b hb => by rw [last_tl (n + 1) a ha, last_tl (n + 1) b hb]; exact Nat.le_refl _, fun a ha b hb => by
    have := (all_mem n a ha).1
    rw [last_tl (n + 1) b hb]
    omega⟩
/-- a shorter text stands ahead -/
theorem ahead {y : Str} {n : Nat} {pre suf : List Str} {t c : Str} (h : allT y n = pre ++ t :: suf) (hl : c.length < t.length) (ha : allIn y c = true) : c ∈ pre := by
  have ht := all_mem n t (by rw [h]; simp)
  have hc := mem_all n c (by omega) ha
  have hs := all_sorted y n
  rw [h] at hc hs
  rcases List.mem_append.mp hc with hc | hc
  · exact hc
  · exfalso
    rcases List.mem_cons.mp hc with rfl | hc
    · omega
    · have := (List.pairwise_cons.mp (List.pairwise_append.mp hs).2.1).1 c hc
      omega
theorem find_congr {α : Type} {p q : α → Bool} : ∀ (l pre : List α), (∀ s ∈ pre, q s = false) → (∀ pre' t suf, pre ++ l = pre' ++ t :: suf → (∀ s ∈ pre', q s = false) → p t = q t) → l.find? p = l.find? q
  | [], _, _, _ => rfl
  | t :: l, pre, h, k => by
    have e := k pre t l rfl h
    rw [List.find?_cons, List.find?_cons, e]
    cases hq : q t with
    | true => rfl
    | false =>
      refine find_congr l (pre ++ [t]) (fun s hs => ?_) fun pre' t' suf e2 h2 => k pre' t' suf (by rw [← e2]; simp) h2
      rcases List.mem_append.mp hs with hs | hs
      · exact h s hs
      · rw [List.mem_singleton.mp hs]; exact hq
open Classical in
/-- a text of two ends -/
noncomputable def two (ms : List (Str × Str)) (t : Str) : Bool := decide (¬ Uq (kcs ms) (cv t))
open Classical in
theorem two_false {ms : List (Str × Str)} {t : Str} (h : two ms t = false) : Uq (kcs ms) (cv t) := by
  unfold two at h
  exact Classical.not_not.mp (of_decide_eq_false h)
open Classical in
theorem amb_first {y : Str} {ms : List (Str × Str)} (hm : Men y ms) (n : Nat) : (allT y n).find? (amb ms) = (allT y n).find? (two ms) := by
  refine find_congr _ [] (fun s hs => absurd hs List.not_mem_nil) fun pre t suf e h => ?_
  rw [List.nil_append] at e
  have ht := all_mem n t (by rw [e]; simp)
  have hs : ∀ c ∈ behinds ms t, Uq (kcs ms) (cv c) := fun c hc => two_false (h c (ahead e (bh_less hm hc) (bh_over hm ht.2 hc)))
  have := amb_iff hm hs
  unfold two
  rw [Bool.eq_iff_iff, decide_eq_true_eq]
  exact this
theorem no_two {y : Str} {ms : List (Str × Str)} (hm : Men y ms) {L : Nat} (hL : ∀ k ∈ ms, k.1.length ≤ L) (h : (allT y (2 * L - 1)).find? (two ms) = none) : ∀ t, allIn y t = true → Uq (kcs ms) (cv t) := by
  intro t ht
  have ov : ∀ w : Wd, Ov (· ∈ cv y) w → ∃ s : Str, cv s = w ∧ allIn y s = true := fun w hw => ⟨⟨w.toArray⟩, rfl, List.all_eq_true.mpr fun q hq => decide_eq_true (hw q hq)⟩
  have tov : ∀ s : Str, allIn y s = true → Ov (· ∈ cv y) (cv s) := fun s hs q hq => of_decide_eq_true (List.all_eq_true.mp hs q hq)
  refine crit (sh_of hm) (Y := (· ∈ cv y)) (L := L) (fun k' hk' => ?_) (fun k' hk' => ?_) (fun w hw hl => ?_) ((cv t).length + 1) (cv t) (Nat.lt_succ_self _) (tov t ht)
  · obtain ⟨k, hk, rfl⟩ := List.mem_map.mp hk'
    show (cv k.1).length ≤ L
    rw [cv_len]
    exact hL k hk
  · obtain ⟨k, hk, rfl⟩ := List.mem_map.mp hk'
    exact tov k.2 (hm k hk).1.2.2.2.1
  · obtain ⟨s, rfl, hs⟩ := ov w hw
    have hmem := mem_all (2 * L - 1) s (by rw [← cv_len]; exact hl) hs
    have := List.find?_eq_none.mp h s hmem
    exact two_false (by simpa using this)
theorem all_prefix (y : Str) : ∀ (m n : Nat), m ≤ n → ∃ r, allT y n = allT y m ++ r
  | m, 0, h => ⟨[], by rw [Nat.le_zero.mp h, List.append_nil]⟩
  | m, n + 1, h => by
    by_cases e : m = n + 1
    · exact ⟨[], by rw [e, List.append_nil]⟩
    · obtain ⟨r, hr⟩ := all_prefix y m n (by omega)
      exact ⟨r ++ lastT y (n + 1), by show allT y n ++ _ = _; rw [hr, List.append_assoc]⟩
open Classical in
/-- it does not matter how far one looks -/
theorem two_far {y : Str} {ms : List (Str × Str)} (hm : Men y ms) {L M : Nat} (hL : ∀ k ∈ ms, k.1.length ≤ L) (hM : 2 * L - 1 ≤ M) : (allT y M).find? (two ms) = (allT y (2 * L - 1)).find? (two ms) := by
  obtain ⟨r, hr⟩ := all_prefix y (2 * L - 1) M hM
  cases h : (allT y (2 * L - 1)).find? (two ms) with
  | some t => rw [hr, List.find?_append, h]; rfl
  | none =>
    refine List.find?_eq_none.mpr fun t ht => ?_
    have u := no_two hm hL h t (all_mem M t ht).2
    unfold two
    simp [u]
end K24

set_option maxHeartbeats 4000000
set_option autoImplicit false
/-! max(xs, default=n) of a list of ints. -/
namespace AsMaxD
open PySem PySem.Spec PyProof.Rows L2 LamX NdefX AsSort AsMax
open Evl (Ex)
section
variable {X : Cx}
def rMaxDf (K : PySem.W.Frag) : List V → List V → Hp → VK → Prop := fun vs zs H Q => ∃ (a : Addr) (ns : List Int) (d : Int), vs = [.ref a] ∧ zs = [.int d] ∧ SqL K H a (ns.map V.int) ∧ (ns = [] → Q (.int d) H) ∧ ∀ n r, ns = n :: r → Q (.int (r.foldl max n)) H
theorem dpi {K : PySem.W.Frag} {H : Hp} : ∀ ns : List Int, DpAll K H (ns.map V.int) (ns.map PyData.int)
  | [] => .nil
  | n :: ns => .cons (.int n) (dpi ns)
theorem dpi_depth : ∀ ns : List Int, PyData.depthAll (ns.map PyData.int) = 0
  | [] => by simp [PyData.depthAll]
  | n :: ns => by simp [PyData.depthAll, PyData.depth, dpi_depth ns]
theorem dpi_alike (ns : List Int) : PySem.W.AlikeAll (ns.map PyData.int) := by
  refine ⟨fun a ha b hb => ?_, fun a ha => ?_⟩
  · obtain ⟨x, _, rfl⟩ := List.mem_map.mp ha
    obtain ⟨y, _, rfl⟩ := List.mem_map.mp hb
    simp [PySem.W.alike]
  · obtain ⟨x, _, rfl⟩ := List.mem_map.mp ha
    exact fun e => nomatch e
theorem cr_maxDf (hc : X.calm = true) (hu : X.A.units + 1 < cLine) : CallRK X (.builtin "max") [Str.ofString "default"] (rMaxDf X.K) := by
  intro pins s σ H vs zs us ws Q I r rz h
  obtain ⟨a, ns, d, rfl, rfl, hs, q0, q1⟩ := h
  obtain ⟨its, rv, hl, _⟩ := I.list hs
  obtain rfl := Vals.ref1 r
  obtain ⟨w1, rfl, e1⟩ := vals1 rz
  obtain ⟨as, hr⟩ := Dp.readsAll I (ns.map PyData.int) _ _ (dpi ns) rv
  refine PySem.W.max_list_default (I.ok.hd hc) hl.isList hr (dpi_alike ns) (by rw [dpi_depth]; exact hu) (fun e h' tk hk => ?_) fun y ys i v h' tk bs e hi rd hk => ?_
  · exact ⟨.int d, H, I.kept hk, e1, q0 (List.map_eq_nil_iff.mp e)⟩
  · cases ns with
    | nil => cases e
    | cons n r =>
      have e2 : y = .int n ∧ ys = r.map PyData.int := by
        have := List.cons.inj e
        exact ⟨this.1.symm, this.2.symm⟩
      obtain ⟨rfl, rfl⟩ := e2
      rw [PySem.W.maxD_ints] at rd
      cases rd
      exact ⟨.int _, H, I.kept hk, ⟨_, rfl⟩, q1 n r rfl⟩
end
end AsMaxD

set_option maxHeartbeats 4000000
set_option autoImplicit false
/-! texts_within, least_overlap. -/
namespace K24
open PySem PySem.Spec PyProof.Rows L2 AsSort AsKit AsMax AsMin AsMaxD
open Evl (Ex Ev EvT EvA)
open LamX (ExtN TabB)
open NdefX (TabsN NTab NScope nscope_by NF startF)
/-- all but d and the tables stays -/
def Kp (d : Addr) (H H' : Hp) : Prop := ∀ b o, b ≠ d → H b = some o → (∀ ps, o ≠ .tbl ps) → H' b = some o
theorem Kp.refl (d : Addr) (H : Hp) : Kp d H H := fun _ _ _ h _ => h
theorem Kp.trans {d : Addr} {H H1 H2 : Hp} (a : Kp d H H1) (b : Kp d H1 H2) : Kp d H H2 := fun x o n h t => b x o n (a x o n h t) t
theorem kp_ext {d : Addr} {H H' : Hp} (e : ExtN H H') : Kp d H H' := fun b o _ h t => e b o h t
theorem kp_ex {d : Addr} {H H' : Hp} (e : Ex H H') : Kp d H H' := fun b o _ h _ => e b o h
theorem kp_upd {d : Addr} {H : Hp} {o : HO} : Kp d H (upd H d o) := fun b u n h _ => (upd_ne n).trans h
theorem Kp.mut {d l : Addr} {H H' : Hp} {o : HO} (a : Kp d H H') (n : H l = none) : Kp d H (upd H' l o) := fun b u hb h t => (upd_ne (fun z => by rw [z, n] at h; cases h)).trans (a b u hb h t)
section
variable {K : PySem.W.Frag} {G G' : Hp} {d : Addr} {kvs : List (Key × V)}
theorem seq_kp (hd : G d = some (.dK kvs)) (e : Kp d G G') {a : Addr} {xs : List V} (s : SqL K G a xs) : SqL K G' a xs := by
  have ne : ∀ u, G a = some u → (∀ q, u ≠ .dK q) → a ≠ d := fun u h n z => by rw [z, hd] at h; exact n _ (Option.some.inj h).symm
  rcases s with (s | ⟨o, s⟩) | s
  · exact .inl (.inl (e _ _ (ne _ s fun _ z => nomatch z) s fun _ z => nomatch z))
  · exact .inl (.inr ⟨o, e _ _ (ne _ s fun _ z => nomatch z) s fun _ z => nomatch z⟩)
  · exact .inr s
theorem tup_kp (hd : G d = some (.dK kvs)) (e : Kp d G G') {a : Addr} {xs : List V} (s : SqT K G a xs) : SqT K G' a xs := by
  have ne : ∀ u, G a = some u → (∀ q, u ≠ .dK q) → a ≠ d := fun u h n z => by rw [z, hd] at h; exact n _ (Option.some.inj h).symm
  rcases s with (s | ⟨o, s⟩) | s
  · exact .inl (.inl (e _ _ (ne _ s fun _ z => nomatch z) s fun _ z => nomatch z))
  · exact .inl (.inr ⟨o, e _ _ (ne _ s fun _ z => nomatch z) s fun _ z => nomatch z⟩)
  · exact .inr s
mutual
theorem dp_kp (hd : G d = some (.dK kvs)) (e : Kp d G G') : ∀ {v : V} {x : PyData}, Dp K G v x → Dp K G' v x
  | _, _, .non => .non
  | _, _, .bl b => .bl b
  | _, _, .int i => .int i
  | _, _, .str x => .str x
  | _, _, .lst a b => .lst (seq_kp hd e a) (dpAll_kp hd e b)
  | _, _, .tup a b => .tup (tup_kp hd e a) (dpAll_kp hd e b)
theorem dpAll_kp (hd : G d = some (.dK kvs)) (e : Kp d G G') : ∀ {vs : List V} {ds : List PyData}, DpAll K G vs ds → DpAll K G' vs ds
  | _, _, .nil => .nil
  | _, _, .cons a b => .cons (dp_kp hd e a) (dpAll_kp hd e b)
end
theorem tabs_dK {Ts : List NTab} {H : Hp} {o : HO} (h : H d = some (.dK kvs)) (t : TabsN Ts H) : TabsN Ts (upd H d o) := fun p hp => by
  obtain ⟨ps, t1, t2, t3⟩ := t p hp
  refine ⟨ps, (upd_ne (fun z => by rw [z, h] at t1; cases t1)).trans t1, t2, fun pos cv hc => ?_⟩
  obtain ⟨c, e1, e2⟩ := t3 pos cv hc
  refine ⟨c, e1, (upd_ne (fun z => ?_)).trans e2⟩
  rw [z, h] at e2
  have e3 := Option.some.inj e2
  unfold LamX.CodeO at e3
  cases e3
end
section
variable {P : Program} {w : World} {K : PySem.W.Frag} {mg : Str → Option Value} {base : Heap}
abbrev sTextsWithin : Stmt := top 23
abbrev sLeast : Stmt := top 30
abbrev nTextsW : List Str := ["letters", "longest", "texts", "last", "_", "text", "letter"]
theorem sc_textsw : FnScope nTextsW ["letters", "longest"] (defScope sTextsWithin) := ⟨rfl, rfl, rfl, by decide +kernel, rfl, by decide +kernel, by decide +kernel⟩
def spTextsW (K : PySem.W.Frag) : Sp := fun vs H Q _ => ∃ (y : Str) (n : Nat), vs = [.str y, .int (n : Int)] ∧ y.length ≤ 4 ∧ n ≤ 5 ∧ ∀ l H', H l = none → Ex H H' → H' l = some (.lst ((allT y n).map V.str)) → Q (.ref l) H'
abbrev tNextT (K : PySem.W.Frag) : TE := tLc2 (iList K (tVar 3)) (gName 5) tYes (iStr (tVar 0)) (gName 6) tYes (tOp AsKit.rAddS (tVar 5) (tVar 6)) [5, 6] [6]
theorem next_take (y : Str) {ts : List Str} {i : Nat} {t : Str} (h : ts[i]? = some t) : nextT y (ts.take (i + 1)) = nextT y (ts.take i) ++ y.cps.toList.map fun c => t ++ oneS c := by
  unfold nextT
  rw [List.take_add_one, h, List.flatMap_append]
  simp
theorem ev_next {y : Str} {v1 v2 : V} {a : Addr} {x4 x5 x6 : Option V} {ts : List Str} {H : Hp} {Q : VK} (ha : H a = some (.lst (ts.map V.str))) (hl : ts.length ≤ 2000) (hy : y.length ≤ 4) (ht : ∀ t ∈ ts, t.length ≤ 100) (q : ∀ D H', H D = none → Ex H H' → H' D = some (.lst ((nextT y ts).map V.str)) → Q (.ref D) H') :
    tNextT K [some (.str y), some v1, some v2, some (.ref a), x4, x5, x6] H Q := by
  have yl : y.cps.toList.length = y.length := Array.length_toList
  have ys : y.cps.size = y.length := rfl
  refine ⟨.ref a, rfl, a, rfl, ⟨_, Evl.sq_of ha⟩, fun D nD => ⟨fun i m H' => m = ts.length - i ∧ i ≤ ts.length ∧ Ex H H' ∧ H' D = some (.lst ((nextT y (ts.take i)).map V.str)), ⟨ts.length, by omega, Nat.zero_le _, Ex.new nD, upd_same⟩, fun i m H' hW => ?_⟩⟩
  obtain ⟨rfl, hi, ex, hD⟩ := hW
  by_cases hlt : i < ts.length
  · obtain ⟨t, ht1⟩ : ∃ t, ts[i]? = some t := ⟨_, List.getElem?_eq_getElem hlt⟩
    have hg : (ts.map V.str)[i]? = some (.str t) := by rw [List.getElem?_map, ht1]; rfl
    have ha' := ex _ _ ha
    have tl := ht t (List.mem_of_getElem? ht1)
    refine .inr ⟨⟨_, _, Evl.sq_of ha', hg⟩, fun H'' => Ex H H'' ∧ H'' D = some (.lst ((nextT y (ts.take (i + 1))).map V.str)), fun H'' h => ⟨ts.length - (i + 1), by omega, rfl, by omega, h.1, h.2⟩, fun x H'' yl2 => ?_⟩
    obtain ⟨rfl, hx⟩ := yl2
    have hx := Option.some.inj (hg.symm.trans (hx _ (Evl.sq_of ha')))
    subst hx
    refine ⟨rfl, .str y, rfl, y, rfl, fun j k H2 => k = y.length - j ∧ j ≤ y.length ∧ Ex H H2 ∧ H2 D = some (.lst ((nextT y (ts.take i) ++ (y.cps.toList.take j).map fun c => t ++ oneS c).map V.str)), ⟨y.length, by omega, Nat.zero_le _, ex, by rw [List.take_zero, List.map_nil, List.append_nil]; exact hD⟩, fun j k H2 hW1 => ?_⟩
    obtain ⟨rfl, hj, ex2, hD2⟩ := hW1
    by_cases hjl : j < y.length
    · have hjc : j < y.cps.size := hjl
      refine .inr ⟨hjc, fun H3 => Ex H H3 ∧ H3 D = some (.lst ((nextT y (ts.take i) ++ (y.cps.toList.take (j + 1)).map fun c => t ++ oneS c).map V.str)), fun H3 h => ⟨y.length - (j + 1), by omega, rfl, by omega, h.1, h.2⟩, fun x H3 yl3 => ?_⟩
      obtain ⟨rfl, c, hc, rfl⟩ := yl3
      have hc2 : y.cps.toList[j]? = some c := by rw [Array.getElem?_toList]; exact hc
      have nl : (nextT y (ts.take i)).length ≤ 8000 := by
        rw [next_len]
        have h1 := List.length_take_le' i ts
        exact Nat.le_trans (Nat.mul_le_mul h1 hy) (by omega)
      have tkl := List.length_take_le' j y.cps.toList
      refine ⟨rfl, .str t, rfl, .str (oneS c), rfl, t, oneS c, rfl, rfl, Evl.sz_of (by show t.length + 1 ≤ _; omega), _, hD2, Evl.sz_lt (by rw [List.length_map, List.length_append, List.length_map]; omega), Ex.mut ex2 nD, ?_⟩
      rw [upd_same, List.take_add_one, hc2, List.map_append, List.map_append, List.map_append, List.append_assoc]
      simp
    · have e : j = y.length := by omega
      subst e
      refine .inl ⟨Nat.le_refl _, ex2, ?_⟩
      rw [next_take y ht1]
      rw [show y.cps.toList.take y.length = y.cps.toList by rw [← yl, List.take_length]] at hD2
      exact hD2
  · have e : i = ts.length := by omega
    subst e
    rw [List.take_length] at hD
    exact .inl ⟨⟨_, Evl.sq_of (ex _ _ ha), by rw [List.length_map]; exact Nat.le_refl _⟩, q D H' nD ex hD⟩
theorem c_textsw (D : Df K mg "texts_within" sTextsWithin) (hb : Bl mg) : Cl P w K mg base 1 "texts_within" (spTextsW K) [] := by
  refine cl_of D sc_textsw (fun vs H Q E ⟨y, n, h, _⟩ => by rw [h]; rfl) (fun _ _ _ _ _ _ us hl => match us, hl with | [_, _], _ => rfl) fun f cdv A outer s H vs Q E hr h => ?_
  obtain ⟨y, n, rfl, hy, hn, q⟩ := h
  refine ⟨_, pss_cons (ps_set (i := 2) sc_textsw.nd rfl (.inl rfl) (pe_lst (pa_cons pe_str pa_nil)))
    (pss_cons (ps_set (i := 3) sc_textsw.nd rfl (.inl rfl) (pe_lst (pa_cons pe_str pa_nil)))
    (pss_cons (ps_for PassesOwn.never rfl (pi_range1 (by rfl) (hb _ (by decide +kernel)) (pa_cons (pv 1) pa_nil)) (pg_name (i := 4) sc_textsw.nd rfl (.inl rfl))
      (pss_cons (ps_setLc2 (i := 3) (own := [("text", 5), ("letter", 6)]) (vs1 := [6]) rfl sc_textsw.nd rfl rfl (sw_true rfl rfl rfl (by decide +kernel)) (pi_list (pv 3)) (blkOk_by (N := nTextsW) (sc := defScope sTextsWithin) (own := [("text", 5), ("letter", 6)]) (by decide +kernel)) (by simp)
        (fun _ _ _ _ _ => pg_name (i := 5) sc_textsw.nd rfl (.inl rfl) (.inr rfl)) (fun _ _ _ _ _ => pts_nil) (fun _ _ _ _ _ => pi_str (pv 0)) (fun _ _ _ _ _ => pg_name (i := 6) sc_textsw.nd rfl (.inl rfl) (.inr rfl)) (fun _ _ _ _ _ => pts_nil) (fun _ _ _ _ _ => pe_op op_add_str (pv 5) (pv 6)))
      (pss_one (ps_expr (pe_bm PySem.F.plainAttrs_list PySem.F.slot_list_extend PySem.F.type_list_extend mt_extend (pv 2) (pa_cons (pv 3) pa_nil))))))
    (pss_one (ps_ret (pv 2))))), ?_⟩
  have ne : ∀ {x y : Addr}, H x = none → (upd H x (.lst [.str ""])) y = none → y ≠ x := fun h1 h2 e => by rw [e, upd_same] at h2; cases h2
  refine ⟨Evl.sz_of (by show 1 ≤ _; decide), fun lt nt => ?_⟩
  refine ⟨Evl.sz_of (by show 1 ≤ _; decide), fun la na => ?_⟩
  have nla := ne nt na
  refine Evl.q_forR1 (n := (n : Int)) (ds_ev (K := K) (ds_cons (d_var (i := 1) ⟨_, rfl, .int _⟩) ds_nil)) (by omega)
    (fun i σ' H' => ∃ (a : Addr) (x4 x5 x6 : Option V), σ' = [some (.str y), some (.int (n : Int)), some (.ref lt), some (.ref a), x4, x5, x6] ∧ Ex H H' ∧ H' lt = some (.lst ((allT y i).map V.str)) ∧ H' a = some (.lst ((lastT y i).map V.str)) ∧ a ≠ lt)
    (fun H1 e1 => ⟨la, _, _, _, rfl, ((Ex.new nt).trans (Ex.new na)).trans e1, e1 _ _ (Ex.new na _ _ upd_same), e1 _ _ upd_same, nla⟩) (fun i σ' H' hi p => ?_) fun σ' H' p => ?_
  · obtain ⟨a, x4, x5, x6, rfl, p1, p2, p3, p4⟩ := p
    have hi2 : i < n := by omega
    have l1 := last_len2 (n := i) hy (by omega)
    have l2 := last_len2 (n := i + 1) hy (by omega)
    have l3 := all_len hy i (by omega)
    refine ev_next (K := K) (Q := fun x H1 => gName 3 x _ H1 _) p3 (by omega) hy (fun t ht => by have := last_tl i t ht; omega) fun D H2 nD e2 hD => ?_
    dsimp only [gName]
    have nDl : D ≠ lt := fun e => by rw [e, p2] at nD; cases nD
    have h2 := e2 _ _ p2
    refine ⟨.ref lt, rfl, .inl ⟨rfl, _, Evl.sq_of h2⟩, .ref D, rfl, lt, D, _, _, rfl, rfl, h2, hD, Evl.sz_of (by rw [List.length_map, List.length_map]; show _ + (lastT y (i + 1)).length ≤ _; omega), ?_⟩
    refine ⟨D, _, _, _, rfl, Ex.mut (p1.trans e2) nt, by rw [upd_same, ← List.map_append]; rfl, (upd_ne nDl).trans hD, nDl⟩
  · obtain ⟨a, x4, x5, x6, rfl, p1, p2, p3, p4⟩ := p
    rw [Int.toNat_natCast] at p2
    exact ⟨_, rfl, q lt H' nt p1 p2⟩
theorem ints_of {G : Hp} : ∀ {xs : List V} {ns : List Int}, DpAll K G xs (ns.map PyData.int) → xs = ns.map V.int
  | _, [], .nil => rfl
  | _, _ :: _, .cons (.int b) t => by rw [ints_of t]; rfl
theorem at0 {xs : List PyData} {d : PyData} (h : xs[0]? = some d) : atI xs 0 = some d := by
  have := atI_nat h
  exact this
theorem em_fix {y : Str} {ms : List (Str × Str)} (hm : Men y ms) {z : Str} (h : behinds ms z = []) : EM ms z = z := by
  cases hk : nextK ms z with
  | none => exact em_none hk
  | some pk =>
    obtain ⟨p, k⟩ := pk
    have := next_bh hm hk
    rw [h] at this
    exact absurd this List.not_mem_nil
/-- the longest left side -/
def maxI (ns : List Int) : Int := match ns with
  | [] => 1
  | n :: r => r.foldl max n
theorem fold_max : ∀ (r : List Int) (n : Int), n ≤ r.foldl max n ∧ (∀ x ∈ r, x ≤ r.foldl max n) ∧ (r.foldl max n = n ∨ r.foldl max n ∈ r)
  | [], n => ⟨Int.le_refl _, fun x h => absurd h List.not_mem_nil, .inl rfl⟩
  | x :: r, n => by
    obtain ⟨a, b, c⟩ := fold_max r (max n x)
    show n ≤ r.foldl max (max n x) ∧ (∀ z ∈ x :: r, z ≤ r.foldl max (max n x)) ∧ (r.foldl max (max n x) = n ∨ r.foldl max (max n x) ∈ x :: r)
    refine ⟨by omega, fun z hz => ?_, ?_⟩
    · rcases List.mem_cons.mp hz with rfl | hz
      · omega
      · exact b z hz
    · rcases c with c | c
      · by_cases h : n ≤ x
        · exact .inr (by rw [c, Int.max_eq_right h]; exact List.mem_cons_self ..)
        · exact .inl (by rw [c, Int.max_eq_left (by omega)])
      · exact .inr (List.mem_cons_of_mem _ c)
def lensI (ms : List (Str × Str)) : List Int := ms.map fun k => (k.1.length : Int)
def maxL (ms : List (Str × Str)) : Nat := (maxI (lensI ms)).toNat
theorem maxL_ok {y : Str} {ms : List (Str × Str)} (hm : Men y ms) (hn : ms ≠ []) : (∀ k ∈ ms, k.1.length ≤ maxL ms) ∧ 1 ≤ maxL ms ∧ maxL ms ≤ 3 ∧ (maxL ms : Int) = maxI (lensI ms) := by
  match ms, hn with
  | k0 :: r, _ =>
    obtain ⟨a, b, c⟩ := fold_max (lensI r) (k0.1.length : Int)
    have e : maxI (lensI (k0 :: r)) = (lensI r).foldl max (k0.1.length : Int) := rfl
    have g0 := hm k0 (List.mem_cons_self ..)
    have p0 := g0.2
    have q0 := g0.1.1
    have up : (lensI r).foldl max (k0.1.length : Int) ≤ 3 := by
      rcases c with c | c
      · rw [c]; omega
      · obtain ⟨k, hk, ek⟩ := List.mem_map.mp c
        have := (hm k (List.mem_cons_of_mem _ hk)).1.1
        omega
    unfold maxL
    rw [e]
    refine ⟨fun k hk => ?_, by omega, by omega, by omega⟩
    rcases List.mem_cons.mp hk with rfl | hk
    · omega
    · have := b _ (List.mem_map.mpr ⟨k, hk, rfl⟩)
      omega
def optS : Option Str → PyData
  | some s => .str s
  | none => .none
def spLeast (K : PySem.W.Frag) : Sp := fun vs H Q _ => ∃ (v : V) (y : Str) (ms : List (Str × Str)), vs = [.str y, v] ∧ Dp K H v (.tuple (ms.map kD)) ∧ Men y ms ∧ y.length ≤ 4 ∧ ms.length ≤ 12 ∧ ms ≠ [] ∧ PyData.strOk y = true ∧
  ∀ u H', Ex H H' → Dp K H' u (optS ((allT y (2 * maxL ms - 1)).find? (amb ms))) → Q u H'
theorem q_maxN {te : TE} {σ : L2.St} {H : Hp} {D : Ends} {tz : TS} {i : Nat} {n : Int} {r : List Int} (h : EvD K te σ H (.list ((n :: r).map PyData.int))) (k : ∀ H1, Ex H H1 → tz D (σ.set i (some (.int (r.foldl max n)))) H1) : tSeq (tAsg (tCKw (rMaxDf K) (tCons te tNil) (tCons (tC (.int 1)) tNil)) (gName i)) tz D σ H :=
  h H (Ex.refl H) _ fun u H1 e1 hu1 => by
    cases hu1 with
    | lst hs hx =>
      rename_i ul xs
      have ex : xs = (n :: r).map V.int := ints_of hx
      subst ex
      exact ⟨ul, n :: r, 1, rfl, rfl, hs, (fun e => nomatch e), fun n' r' e => by cases e; exact k H1 e1⟩
abbrev nLeast : List Str := ["letters", "mender", "longest", "left", "_", "ends", "text", "behind", "deed", "end"]
theorem sc_least : FnScope nLeast ["letters", "mender"] (defScope sLeast) := ⟨rfl, rfl, rfl, by decide +kernel, rfl, by decide +kernel, by decide +kernel⟩
theorem c_least (D : Df K mg "least_overlap" sLeast) (hb : Bl mg) (hmx : mg "max" = none) (C1 : Cl P w K mg base 1 "texts_within" (spTextsW K) []) (C2 : Cl P w K mg base 5 "deeds_on" (spDeedsOn K) []) (C3 : Cl P w K mg base 1 "text_behind" (spTextBehind K) []) : Cl P w K mg base 6 "least_overlap" (spLeast K) [] := by
  refine cl_of D sc_least (fun vs H Q E ⟨v, y, ms, h, _⟩ => by rw [h]; rfl) (fun _ _ _ _ _ _ us hl => match us, hl with | [_, _], _ => rfl) fun f cdv A outer s H vs Q E hr h => ?_
  obtain ⟨v, y, ms, rfl, h0, hm, hy, hml, hm0, hso, q⟩ := h
  have hu : (A.deeper (envOfC "least_overlap" (defScope sLeast) s.heap.objs.size f cdv)).units + 1 < cLine := by have := hr.un; omega
  refine ⟨_, pss_cons (ps_set (i := 2) sc_least.nd rfl (.inl rfl) (pe_callBK (cr_maxDf rfl hu) (by rfl) hmx (by decide +kernel) (pa_cons (pe_lc (own := [("left", 3), ("_", 4)]) (g := gTup K 2 (gCons (gName 3) (gCons (gName 4) gNil))) rfl sc_least.nd (pi_tup (pv 1)) (blkOk_by (N := nLeast) (sc := defScope sLeast) (own := [("left", 3), ("_", 4)]) (by decide +kernel))
      (fun _ _ _ _ _ => pg_tup rfl (pgs_cons (pg_name (i := 3) sc_least.nd rfl (.inl rfl) (.inr rfl)) (pgs_cons (pg_name (i := 4) sc_least.nd rfl (.inl rfl) (.inr rfl)) pgs_nil))) (fun _ _ _ _ _ => pts_nil) (fun _ _ _ _ _ => pe_lenS hb (pv 3))) pa_nil) (pk_cons pe_int pk_nil)))
    (pss_cons (ps_set (i := 5) sc_least.nd rfl (.inr rfl) pe_dnewK)
    (pss_cons (ps_for PassesOwn.never rfl (pi_list (C8.pe_c C1 hr (by decide) (by rfl) (pa_cons (pv 0) (pa_cons (pe_op op_sub (pe_op op_mul pe_int (pv 2)) pe_int) pa_nil)))) (pg_name (i := 6) sc_least.nd rfl (.inr rfl))
      (pss_cons (ps_set (i := 7) sc_least.nd rfl (.inr rfl) (pe_lcn 8 sc_least.nd (pi_tup (C8.pe_c C2 hr (by decide) (by rfl) (pa_cons (pv 1) (pa_cons (pv 6) pa_nil)))) (fun _ _ _ _ _ => pts_nil) (fun _ _ _ _ _ => pe_dget hu (pv 5) (C8.pe_c C3 hr (by decide) (by rfl) (pa_cons (pv 6) (pa_cons (pv 8) pa_nil))) (fun _ _ => rfl)) (fun _ _ _ _ _ => pg_name (i := 8) sc_least.nd rfl (.inl rfl)) (blkOk_by (N := nLeast) (sc := defScope sLeast) (own := [("deed", 8)]) (by decide +kernel)) rfl))
      (pss_cons (ps_if (pt_val (pe_anyL rfl hb (pe_lcn 9 sc_least.nd (pi_list (pv 7)) (fun _ _ _ _ _ => pts_nil) (fun _ _ _ _ _ => pe_cmpR op_ne (pv 9) (pe_ix (r := rIxL K) ix_list (pv 7) pe_int (fun _ _ => rfl)) (nomark _)) (fun _ _ _ _ _ => pg_name (i := 9) sc_least.nd rfl (.inl rfl)) (blkOk_by (N := nLeast) (sc := defScope sLeast) (own := [("end", 9)]) (by decide +kernel)) rfl))) (pss_one (ps_ret (pv 6))) pss_nil)
      (pss_one (ps_dput hu (pv 5) (pv 6) (pe_ifExp (pt_cmpR op_gt (pe_lenQ hb (pv 7)) pe_int (nomark _)) (pe_ix (r := rIxL K) ix_list (pv 7) pe_int (fun _ _ => rfl)) (pv 6)) rfl)))))
    (pss_one (ps_ret pe_non)))), ?_⟩
  obtain ⟨L1, L2', L3, L4⟩ := maxL_ok hm hm0
  have hz2 : ∀ z : Str, z.cps.toList.length = z.length := fun z => Array.length_toList
  obtain ⟨n0, r0, enr⟩ : ∃ n r, lensI ms = n :: r := by
    match ms, hm0 with
    | k0 :: r, _ => exact ⟨_, _, rfl⟩
  have hmax : EvD K (tLc (iTup K (tVar 1)) (gTup K 2 (gCons (gName 3) (gCons (gName 4) gNil))) tYes (tCB rLenTx (tCons (tVar 3) tNil)) [3, 4]) (L2.start nLeast [.str y, v]) H (.list ((n0 :: r0).map PyData.int)) := by
    refine d_eqTo (d_lcT (fun _ => true) (fun d => .int ((pairOf d).1.length : Int)) (d_var (i := 1) ⟨_, rfl, h0⟩) (by rw [List.length_map]; omega) (fun d hd _ => rfl) fun d hd x H2 e2 hx k2 hk2 => ?_) ?_
    · obtain ⟨q, hq, rfl⟩ := List.mem_map.mp hd
      have := (hm q hq).1.1
      exact g_two hx fun va vb ha hb2 => hk2 _ rfl (fun H6 e6 Q q => q H6 (Ex.refl H6)) fun _ => d_lenS (x := q.1) (d_var (i := 3) ⟨_, rfl, ha⟩) (by omega)
    · refine congrArg PyData.list ?_
      rw [← enr, List.filter_eq_self.mpr fun _ _ => rfl, List.map_map]
      unfold lensI
      rw [List.map_map]
      rfl
  refine q_maxN (K := K) hmax fun H1 e1 => ?_
  have eL : r0.foldl max n0 = (maxL ms : Int) := by rw [L4, enr]; rfl
  rw [eL]
  refine fun d nd => ?_
  dsimp only [gName]
  obtain ⟨G, eG⟩ : ∃ G, G = upd H1 d (.dK []) := ⟨_, rfl⟩
  have xG : Ex H1 G := by rw [eG]; exact Ex.new nd
  have hdG : G d = some (.dK []) := by rw [eG, upd_same]
  rw [← eG]
  obtain ⟨N, eN⟩ : ∃ N, N = 2 * maxL ms - 1 := ⟨_, rfl⟩
  have eNi : (2 : Int) * (maxL ms : Int) - 1 = ((N : Nat) : Int) := by omega
  rw [← eN] at q
  refine ⟨.str y, rfl, .int (maxL ms : Int), rfl, 2, (maxL ms : Int), rfl, rfl, .inl ⟨by decide, by decide⟩, 2 * (maxL ms : Int), 1, rfl, rfl, y, N, by show [V.str y, V.int (2 * (maxL ms : Int) - 1)] ++ [] = _; rw [eNi]; rfl, hy, by omega, fun l H2 nl e2 hl => ?_⟩
  have hd2 := e2 _ _ hdG
  have nld : l ≠ d := fun e => by rw [e, hdG] at nl; cases nl
  have al := all_len hy N (by omega)
  have nHd : H d = none := by
    cases hq : H d with
    | none => rfl
    | some o => have := e1 _ _ hq; rw [nd] at this; cases this
  refine ⟨l, rfl, ⟨_, Evl.sq_of hl⟩, for_list (xs := (allT y N).map V.str) (fun i σ' H' => ∃ x6 x7 x8 x9 kvs, σ' = [some (.str y), some v, some (.int (maxL ms : Int)), none, none, some (.ref d), x6, x7, x8, x9] ∧ Kp d H2 H' ∧ Ex H H' ∧ H' d = some (.dK kvs) ∧ kvs.length ≤ i ∧ (∀ t ∈ (allT y N).take i, valV kvs (.inr t) = some (.str (EM ms t))) ∧ ∀ t ∈ (allT y N).take i, amb ms t = false)
    ⟨_, _, _, _, [], rfl, Kp.refl d H2, (e1.trans xG).trans e2, hd2, Nat.le_refl _, fun t h => absurd h List.not_mem_nil, fun t h => absurd h List.not_mem_nil⟩ (fun i σ' H' _ ⟨_, _, _, _, _, _, p, _⟩ => Evl.sq_of (p _ _ nld hl (fun _ e => nomatch e))) (fun i x σ' H' hi p => ?_) fun σ' H' p => ?_⟩
  · obtain ⟨x6, x7, x8, x9, kvs, rfl, p1, p2, p3, p4, p5, p6⟩ := p
    have hil := (List.getElem?_eq_some_iff.mp hi).1
    rw [List.length_map] at hil
    obtain ⟨z, hz⟩ : ∃ z, (allT y N)[i]? = some z := ⟨_, List.getElem?_eq_getElem hil⟩
    rw [List.getElem?_map, hz] at hi
    have hx1 : V.str z = x := Option.some.inj hi
    subst hx1
    obtain ⟨zl, zo⟩ := all_mem N z (List.mem_of_getElem? hz)
    have hsplit : allT y N = (allT y N).take i ++ z :: (allT y N).drop (i + 1) := by
      obtain ⟨h1, h2⟩ := List.getElem?_eq_some_iff.mp hz
      rw [← h2, ← List.drop_eq_getElem_cons h1, List.take_append_drop]
    dsimp only [gName]
    have hv3 : Dp K H' v (.tuple (ms.map kD)) := dp_ex p2 h0
    have lens : ∀ p ∈ ms, p.1.length ≤ 40 ∧ p.2.length ≤ 40 ∧ PyData.strOk p.1 = true ∧ PyData.strOk p.2 = true := fun p hp => by
      have g := (hm p hp).1
      exact ⟨by have := g.1; omega, by have := g.2.1; omega, strOk_in hso g.2.2.1, strOk_in hso g.2.2.2.1⟩
    have hc : EvD K (tCall (spDeedsOn K) [] C8.E0 (tCons (tVar 1) (tCons (tVar 6) tNil))) [some (.str y), some v, some (.int (maxL ms : Int)), none, none, some (.ref d), some (.str z), x7, x8, x9] H' (.tuple (deedsL ms z)) :=
      d_eqTo (d_call (ds_cons (d_var (i := 1) ⟨_, rfl, hv3⟩) (ds_cons (d_var (i := 6) ⟨_, rfl, .str z⟩) ds_nil)) ⟨_, _, rfl, ms, z, rfl, rfl, by omega, by omega, lens⟩) (show PyData.tuple (deedsL (pairsOf (.tuple (ms.map kD))) z) = _ by rw [pairs_map])
    have dl : (deedsL ms z).length ≤ 1000 := by
      have h1 := hitsTo_len (sortO ms) z (z.length + 1)
      rw [sortO_len] at h1
      have h2 : (z.length + 1) * ms.length ≤ 6 * 12 := Nat.mul_le_mul (by omega) hml
      unfold deedsL
      omega
    refine AsKit.q_asg (K := K) (d := .list ((endsC ms z).map PyData.str)) (d_eqTo (d_lcT (fun _ => true) (fun dd => .str (EM ms (bhS z (dOf dd).1 (dOf dd).2))) hc (by omega) (fun dd hd _ => rfl) fun dd hdd x H3 e3 hx k2 hk2 => hk2 _ rfl (fun H6 e6 Q q => q H6 (Ex.refl H6)) fun _ => ?_) ?_) fun v7 H3 e3 h7 => ?_
    · obtain ⟨p, k, rfl, hk, hh, hp⟩ := deed_in hdd
      have kl := lens k hk
      intro H4 e4 Q qq
      refine ⟨.ref d, rfl, (show EvD K (tCall (spTextBehind K) [] C8.E0 (tCons (tVar 6) (tCons (tVar 8) tNil))) [some (.str y), some v, some (.int (maxL ms : Int)), none, none, some (.ref d), some (.str z), x7, some x, x9] H3 (.str (bhS z p k)) from d_call (ds_cons (d_var (i := 6) ⟨_, rfl, .str z⟩) (ds_cons (d_var (i := 8) ⟨_, rfl, hx⟩) ds_nil)) ⟨z, p, k, rfl, by omega, kl.1, kl.2.1⟩) H4 e4 _ fun u H5 e5 hu => ?_⟩
      cases hu
      have hcm : bhS z p k ∈ behinds ms z := bh_mem hk hp hh
      have hin := ahead hsplit (bh_less hm hcm) (bh_over hm zo hcm)
      have hval := p5 _ hin
      refine ⟨d, .str (EM ms (bhS z p k)), rfl, ?_, qq _ H5 e5 (.str _)⟩
      rw [← hval]
      exact DGet.k (k := .inr (bhS z p k)) (e5 _ _ (e4 _ _ (e3 _ _ p3)))
    · refine congrArg PyData.list ?_
      rw [List.filter_eq_self.mpr fun _ _ => rfl]
      unfold endsC behinds
      rw [List.map_map, List.map_map]
      rfl
    have e3H := p2.trans e3
    have hd3 := e3 _ _ p3
    have el : (endsC ms z).length ≤ 1000 := by unfold endsC behinds; rw [List.length_map, List.length_map]; exact dl
    have hlast : ∀ e0 es, endsC ms z = e0 :: es → (endsC ms z).headD "" = e0 := fun e0 es h => by rw [h]; rfl
    have tany : EvD K (tCB (rAny K) (tCons (tLc (iList K (tVar 7)) (gName 9) tYes (tOp rNe (tVar 9) (tOp (rIxL K) (tVar 7) (tC (.int 0)))) [9]) tNil)) [some (.str y), some v, some (.int (maxL ms : Int)), none, none, some (.ref d), some (.str z), some v7, x8, x9] H3 (.bool (amb ms z)) := by
      have ea : amb ms z = ((endsC ms z).map fun e => !decide (e = (endsC ms z).headD "")).any id := by
        unfold amb
        rw [List.any_map]
        rfl
      rw [ea]
      refine d_any (bs := (endsC ms z).map fun e => !decide (e = (endsC ms z).headD "")) (d_eqTo (d_lcL (fun _ => true) (fun d => .bool (match d with | .str e => !decide (e = (endsC ms z).headD "") | _ => false)) (d_var (i := 7) ⟨_, rfl, h7⟩) (by rw [List.length_map]; omega) (fun _ _ _ => rfl) fun dd hdd x H4 e4 hx k2 hk2 => hk2 _ rfl (fun H6 e6 Q q => q H6 (Ex.refl H6)) fun _ => ?_) ?_)
      · obtain ⟨e, he, rfl⟩ := List.mem_map.mp hdd
        obtain ⟨e0, es, hes⟩ := List.exists_cons_of_ne_nil (List.ne_nil_of_mem he)
        have h0' : ((endsC ms z).map PyData.str)[0]? = some (.str e0) := by rw [hes]; rfl
        intro H5 e5 Q qq
        cases hx
        refine ⟨.str e, rfl, (show EvD K (tOp (rIxL K) (tVar 7) (tC (.int 0))) [some (.str y), some v, some (.int (maxL ms : Int)), none, none, some (.ref d), some (.str z), some v7, x8, some (.str e)] H4 (.str e0) from d_ixL (i := 0) (d_var (i := 7) ⟨_, rfl, dp_ex e4 h7⟩) (d_int (i := 0)) (at0 h0')) H5 e5 _ fun u H6 e6 hu => ?_⟩
        cases hu
        refine ⟨rfl, ?_⟩
        have : (!decide (V.str e = V.str e0)) = (!decide (e = (endsC ms z).headD "")) := by rw [hlast e0 es hes]; simp
        rw [this]
        exact qq _ H6 e6 (.bl _)
      · refine congrArg PyData.list ?_
        rw [List.filter_eq_self.mpr fun _ _ => rfl, List.map_map, List.map_map]
        rfl
    refine Evl.q_when (b := amb ms z) (t_ofB (K := K) tany) (fun hb1 H4 e4 => ?_) fun hb1 H4 e4 => ?_
    · refine ⟨.str z, rfl, q (.str z) H4 (e3H.trans e4) ?_⟩
      have hf : (allT y N).find? (amb ms) = some z := by
        rw [hsplit, List.find?_append, List.find?_eq_none.mpr fun t ht => by rw [p6 t ht]; decide, List.find?_cons, hb1]
        rfl
      rw [hf]
      exact .str z
    · have tst := t_ofD (K := K) (σ := [some (.str y), some v, some (.int (maxL ms : Int)), none, none, some (.ref d), some (.str z), some v7, x8, x9]) (d_cmpI (g := fun i j => decide (j < i)) (d_lenL (ds := (endsC ms z).map PyData.str) (d_var (i := 7) ⟨_, rfl, dp_ex e4 h7⟩)) (d_int (i := 0)))
      refine tst H4 (Ex.refl H4) _ fun H5 e5 => ?_
      have e35 := (e3.trans e4).trans e5
      have kl : kvs.length ≤ 8000 := by omega
      have lk := length_putK kvs (.inr z) (V.str (EM ms z))
      have tk : (allT y N).take (i + 1) = (allT y N).take i ++ [z] := by rw [List.take_add_one, hz]; rfl
      have fin : ∀ H6, Ex H5 H6 → ∃ x6 x7 x8' x9' kvs', [some (.str y), some v, some (.int (maxL ms : Int)), none, none, some (.ref d), some (.str z), some v7, x8, x9] = [some (.str y), some v, some (.int (maxL ms : Int)), none, none, some (.ref d), x6, x7, x8', x9'] ∧ Kp d H2 (upd H6 d (.dK (putK kvs (.inr z) (V.str (EM ms z))))) ∧ Ex H (upd H6 d (.dK (putK kvs (.inr z) (V.str (EM ms z))))) ∧ (upd H6 d (.dK (putK kvs (.inr z) (V.str (EM ms z))))) d = some (.dK kvs') ∧ kvs'.length ≤ i + 1 ∧ (∀ t ∈ (allT y N).take (i + 1), valV kvs' (.inr t) = some (.str (EM ms t))) ∧ ∀ t ∈ (allT y N).take (i + 1), amb ms t = false := fun H6 e6 => by
        have e36 := e35.trans e6
        refine ⟨_, _, _, _, putK kvs (.inr z) (V.str (EM ms z)), rfl, (p1.trans (kp_ex e36)).trans kp_upd, fun b o hb => (upd_ne (fun e => by rw [e, nHd] at hb; cases hb)).trans (e36 _ _ (p2 _ _ hb)), upd_same, by omega, fun t ht => ?_, fun t ht => ?_⟩
        · rw [valV_put]
          split
          · rename_i e
            cases e
            rfl
          · rename_i e
            rw [tk] at ht
            rcases List.mem_append.mp ht with ht | ht
            · exact p5 t ht
            · exact absurd (by rw [List.mem_singleton.mp ht]) e
        · rw [tk] at ht
          rcases List.mem_append.mp ht with ht | ht
          · exact p6 t ht
          · rw [List.mem_singleton.mp ht]; exact hb1
      have hd5 := e35 _ _ p3
      cases hE : endsC ms z with
      | nil =>
        have hbn : behinds ms z = [] := by unfold endsC at hE; exact List.map_eq_nil_iff.mp hE
        have em : EM ms z = z := em_fix hm hbn
        have ed : decide ((0 : Int) < ((([] : List Str).map PyData.str).length : Int)) = false := by decide
        rw [ed]
        refine ⟨.str z, rfl, .ref d, rfl, .str z, rfl, d, _, rfl, DPut.k (k := .inr z) hd5 (Evl.sz_lt (by omega)), ?_⟩
        have := fin H5 (Ex.refl H5)
        rw [em] at this
        exact this
      | cons e0 es =>
        have hbn : behinds ms z ≠ [] := fun h => by unfold endsC at hE; rw [h] at hE; cases hE
        have em : EM ms z = e0 := (em_head hm hb1 hbn).trans (hlast e0 es hE)
        have ed : decide ((0 : Int) < (((e0 :: es).map PyData.str).length : Int)) = true := by
          rw [List.length_map, List.length_cons]
          exact decide_eq_true (by omega)
        rw [ed]
        have h0' : ((endsC ms z).map PyData.str)[0]? = some (.str e0) := by rw [hE]; rfl
        refine (show EvD K (tOp (rIxL K) (tVar 7) (tC (.int 0))) [some (.str y), some v, some (.int (maxL ms : Int)), none, none, some (.ref d), some (.str z), some v7, x8, x9] H5 (.str e0) from d_ixL (i := 0) (d_var (i := 7) ⟨_, rfl, dp_ex (e4.trans e5) h7⟩) (d_int (i := 0)) (at0 h0')) H5 (Ex.refl H5) _ fun u H6 e6 hu => ?_
        cases hu
        refine ⟨.ref d, rfl, .str z, rfl, d, _, rfl, DPut.k (k := .inr z) (e6 _ _ hd5) (Evl.sz_lt (by omega)), ?_⟩
        have := fin H6 e6
        rw [em] at this
        exact this
  · obtain ⟨x6, x7, x8, x9, kvs, rfl, p1, p2, p3, p4, p5, p6⟩ := p
    rw [List.length_map, List.take_length] at p6
    refine q .non H' p2 ?_
    rw [List.find?_eq_none.mpr fun t ht => by rw [p6 t ht]; decide]
    exact .non
end
end K24

set_option maxHeartbeats 4000000
set_option autoImplicit false
/-! overlap, is_one_way; the law's texts. -/
namespace K24
open PySem PySem.Spec PyProof.Rows L2 AsSort AsKit AsMax AsMin
open Evl (Ex Ev EvT EvA)
open LamX (ExtN TabB)
open NdefX (TabsN NTab NScope nscope_by NF startF)
section
variable {K : PySem.W.Frag} {σ : L2.St} {H : Hp} {ta tb : TE}
/-- a list of its own -/
def EvLD (K : PySem.W.Frag) (te : TE) (σ : L2.St) (H : Hp) (ds : List PyData) : Prop := ∀ H1, Ex H H1 → ∀ Q : VK, (∀ p vs H2, Ex H1 H2 → H2 p = some (.lst vs) → DpAll K H2 vs ds → Q (.ref p) H2) → te σ H1 Q
theorem dpAll_app {G : Hp} {ws : List V} {es : List PyData} (h2 : DpAll K G ws es) : ∀ {vs : List V} {ds : List PyData}, DpAll K G vs ds → DpAll K G (vs ++ ws) (ds ++ es)
  | [], [], .nil => h2
  | _ :: _, _ :: _, .cons a b => .cons a (dpAll_app h2 b)
theorem ld_lst {tl : TA} {ds : List PyData} (h : EvDs K tl σ H ds) (hl : ds.length ≤ 100000) : EvLD K (tLst tl) σ H ds := fun H1 x Q q =>
  h H1 x _ fun vs H2 e hv => ⟨Evl.sz_of (by rw [dpAll_len hv]; exact hl), fun p np => q p vs _ (e.trans (Ex.new np)) upd_same (dpAll_ex (Ex.new np) hv)⟩
theorem ld_var {i : Nat} {p : Addr} {vs : List V} {ds : List PyData} (hs : σ[i]? = some (some (.ref p))) (hp : H p = some (.lst vs)) (hd : DpAll K H vs ds) : EvLD K (tVar i) σ H ds := fun H1 x Q q => ⟨_, hs, q p vs H1 (Ex.refl H1) (x _ _ hp) (dpAll_ex x hd)⟩
theorem ld_cat {ds es : List PyData} (h : EvLD K ta σ H ds) (h2 : EvLD K tb σ H es) (hl : ds.length + es.length ≤ 1000) : EvLD K (tOp rCat ta tb) σ H (ds ++ es) := fun H1 x Q q =>
  h H1 x _ fun p vs H2 e hp hv => h2 H2 (x.trans e) _ fun b ws H3 e3 hb hw =>
    ⟨p, b, vs, ws, rfl, rfl, e3 _ _ hp, hb, Evl.sz_of (by rw [dpAll_len hv, dpAll_len hw]; omega), fun r nr => q r _ _ ((e.trans e3).trans (Ex.new nr)) upd_same (dpAll_app (dpAll_ex (Ex.new nr) hw) (dpAll_ex (e3.trans (Ex.new nr)) hv))⟩
theorem ld_d {ds : List PyData} {te : TE} (h : EvLD K te σ H ds) : EvD K te σ H (.list ds) := fun H1 x Q q => h H1 x Q fun p vs H2 e hp hv => q _ H2 e (.lst (Evl.sq_of hp) hv)
end
section
variable {K : PySem.W.Frag} {σ : L2.St} {H : Hp} {tl : TE}
theorem ld_lcS {gt : TG} {t : TT} {te : TE} {vs : List Nat} {z : Str} (f : PyData → Bool) (g : PyData → PyData) (h : EvD K tl σ H (.str z)) (hz : z.length ≤ 50000) (him : ∀ d ∈ sgns z, f d = true → imm (g d) = true) (ht : ∀ c ∈ z.cps.toList, Turn K gt t te vs σ H (.str ⟨#[c]⟩) (f (.str ⟨#[c]⟩)) (g (.str ⟨#[c]⟩))) :
    EvLD K (tLc (iStr tl) gt t te vs) σ H (((sgns z).filter f).map g) := fun H1 a Q q => h H1 a _ fun v H2 x hd => by
  cases hd
  have hl : (sgns z).length = z.cps.toList.length := List.length_map ..
  have hl2 : z.cps.toList.length = z.length := Array.length_toList
  refine ⟨z, rfl, fun D hD => lc_str (Cd K H2 (sgns z) f g D) (cd_start hD) (fun i c H' hi p => ?_) fun H' p => ?_⟩
  · have hd : (sgns z)[i]? = some (.str ⟨#[c]⟩) := by unfold sgns; rw [List.getElem?_map, hi]; rfl
    exact ht c (List.mem_of_getElem? hi) _ H' (a.trans (x.trans p.2.1)) (.str _) _ fun σ2 w h1 h2 => ⟨w, cd_turn him p hd (by omega) h1 h2⟩
  · obtain ⟨p1, p2, acc, p3, p4⟩ := p
    rw [← hl, List.take_length] at p4
    exact q D acc H' (x.trans p2) p3 p4
theorem strs_of {G : Hp} : ∀ {xs : List V} {ss : List Str}, DpAll K G xs (ss.map PyData.str) → xs = ss.map V.str
  | _, [], .nil => rfl
  | _, _ :: _, .cons (.str b) t => by rw [strs_of t]; rfl
end
section
variable {P : Program} {w : World} {K : PySem.W.Frag} {mg : Str → Option Value} {base : Heap}
abbrev sOneWay : Stmt := top 33
abbrev sOverlap : Stmt := top 34
abbrev sTexts : Stmt := top 40
abbrev n2 : List Str := ["letters", "mender"]
theorem sc_oneway : FnScope n2 n2 (defScope sOneWay) := ⟨rfl, rfl, rfl, by decide +kernel, rfl, by decide +kernel, by decide +kernel⟩
theorem sc_overlap : FnScope n2 n2 (defScope sOverlap) := ⟨rfl, rfl, rfl, by decide +kernel, rfl, by decide +kernel, by decide +kernel⟩
def optB (r : Option Str) : PyData := .bool r.isNone
def spOv (K : PySem.W.Frag) (g : Option Str → PyData) : Sp := fun vs H Q _ => ∃ (v : V) (y : Str) (ms : List (Str × Str)), vs = [.str y, v] ∧ Dp K H v (.tuple (ms.map kD)) ∧ OkM y ms ∧ y.length ≤ 4 ∧ ms ≠ [] ∧ ∀ u H', Ex H H' → Dp K H' u (g ((allT y (2 * maxL ms - 1)).find? (amb ms))) → Q u H'
theorem c_overlap (D : Df K mg "overlap" sOverlap) (C1 : Cl P w K mg base 7 "check_letters_and_mender" (spCheckMender K) []) (C2 : Cl P w K mg base 6 "least_overlap" (spLeast K) []) : Cl P w K mg base 8 "overlap" (spOv K optS) [] := by
  refine cl_of D sc_overlap (fun vs H Q E ⟨v, y, ms, h, _⟩ => by rw [h]; rfl) (fun _ _ _ _ _ _ us hl => match us, hl with | [_, _], _ => rfl) fun f cdv A outer s H vs Q E hr h => ?_
  obtain ⟨v, y, ms, rfl, h0, om, y1, y2, q⟩ := h
  refine ⟨_, pss_cons (ps_expr (C8.pe_c C1 hr (by decide) (by rfl) (pa_cons (pv 0) (pa_cons (pv 1) pa_nil)))) (pss_one (ps_ret (C8.pe_c C2 hr (by decide) (by rfl) (pa_cons (pv 0) (pa_cons (pv 1) pa_nil))))), ?_⟩
  refine q_exprD (K := K) (d_call (ds_cons (d_var (i := 0) ⟨_, rfl, .str y⟩) (ds_cons (d_var (i := 1) ⟨_, rfl, h0⟩) ds_nil)) ⟨y, ms, rfl, om⟩) fun H1 e1 => ?_
  exact ⟨.str y, rfl, v, rfl, v, y, ms, rfl, dp_ex e1 h0, om.2.2.2.2.2, y1, om.2.2.2.1, y2, om.1, fun u H2 e2 hu => q u H2 (e1.trans e2) hu⟩
theorem c_oneway (D : Df K mg "is_one_way" sOneWay) (C1 : Cl P w K mg base 7 "check_letters_and_mender" (spCheckMender K) []) (C2 : Cl P w K mg base 6 "least_overlap" (spLeast K) []) : Cl P w K mg base 8 "is_one_way" (spOv K optB) [] := by
  refine cl_of D sc_oneway (fun vs H Q E ⟨v, y, ms, h, _⟩ => by rw [h]; rfl) (fun _ _ _ _ _ _ us hl => match us, hl with | [_, _], _ => rfl) fun f cdv A outer s H vs Q E hr h => ?_
  obtain ⟨v, y, ms, rfl, h0, om, y1, y2, q⟩ := h
  refine ⟨_, pss_cons (ps_expr (C8.pe_c C1 hr (by decide) (by rfl) (pa_cons (pv 0) (pa_cons (pv 1) pa_nil)))) (pss_one (ps_ret (pe_cmp (pc_isN (C8.pe_c C2 hr (by decide) (by rfl) (pa_cons (pv 0) (pa_cons (pv 1) pa_nil))))))), ?_⟩
  refine q_exprD (K := K) (d_call (ds_cons (d_var (i := 0) ⟨_, rfl, .str y⟩) (ds_cons (d_var (i := 1) ⟨_, rfl, h0⟩) ds_nil)) ⟨y, ms, rfl, om⟩) fun H1 e1 => ?_
  refine ⟨.str y, rfl, v, rfl, v, y, ms, rfl, dp_ex e1 h0, om.2.2.2.2.2, y1, om.2.2.2.1, y2, om.1, fun u H2 e2 hu => q _ H2 (e1.trans e2) ?_⟩
  cases hf : (allT y (2 * maxL ms - 1)).find? (amb ms) with
  | none =>
    rw [hf] at hu
    cases hu
    exact .bl true
  | some s =>
    rw [hf] at hu
    cases hu
    exact .bl false
theorem s_ldA {σ : L2.St} {H : Hp} {te : TE} {i : Nat} {D : Ends} {ds : List PyData} (h : EvLD K te σ H ds) (k : ∀ p vs H1, Ex H H1 → H1 p = some (.lst vs) → DpAll K H1 vs ds → D.nx (σ.set i (some (.ref p))) H1) : tAsg te (gName i) D σ H := h H (Ex.refl H) _ k
theorem last_len6 {y : Str} (h : y.length ≤ 4) {n : Nat} (hn : n ≤ 6) : (lastT y n).length ≤ 4096 := by
  have := last_len h n
  have h2 : 4 ^ n ≤ 4 ^ 6 := Nat.pow_le_pow_right (by decide) hn
  have h3 : 4 ^ 6 = 4096 := by decide
  omega
theorem all_len6 {y : Str} (h : y.length ≤ 4) : ∀ n, n ≤ 6 → (allT y n).length ≤ (n + 1) * 4096
  | 0, _ => by show 1 ≤ _; decide
  | n + 1, hn => by
    show (allT y n ++ lastT y (n + 1)).length ≤ _
    rw [List.length_append]
    have h1 := all_len6 h n (by omega)
    have h2 := last_len6 h hn
    omega
abbrev nTexts : List Str := ["letters", "most", "found", "here", "turn", "longer", "text", "sign"]
theorem sc_texts : FnScope nTexts ["letters", "most"] (defScope sTexts) := ⟨rfl, rfl, rfl, by decide +kernel, rfl, by decide +kernel, by decide +kernel⟩
def spTexts (K : PySem.W.Frag) : Sp := fun vs H Q _ => ∃ (y : Str) (n : Nat), vs = [.str y, .int (n : Int)] ∧ y.length ≤ 4 ∧ n ≤ 6 ∧ ∀ l H', Ex H H' → H' l = some (.lst ((allT y n).map V.str)) → Q (.ref l) H'
theorem c_texts (D : Df K mg "_law_texts" sTexts) (hb : Bl mg) : Cl P w K mg base 1 "_law_texts" (spTexts K) [] := by
  refine cl_of D sc_texts (fun vs H Q E ⟨y, n, h, _⟩ => by rw [h]; rfl) (fun _ _ _ _ _ _ us hl => match us, hl with | [_, _], _ => rfl) fun f cdv A outer s H vs Q E hr h => ?_
  obtain ⟨y, n, rfl, hy, hn, q⟩ := h
  refine ⟨_, pss_cons (ps_par (i := 2) (j := 3) rfl sc_texts.nd rfl rfl (by decide) rfl rfl (pa_cons (pe_lst (pa_cons pe_str pa_nil)) (pa_cons (pe_lst (pa_cons pe_str pa_nil)) pa_nil)) rfl)
    (pss_cons (ps_for PassesOwn.never rfl (pi_range1 (by rfl) (hb _ (by decide +kernel)) (pa_cons (pv 1) pa_nil)) (pg_name (i := 4) sc_texts.nd rfl (.inl rfl))
      (pss_cons (ps_set (i := 5) sc_texts.nd rfl (.inl rfl) (pe_lst pa_nil))
      (pss_cons (ps_for PassesOwn.never rfl (pi_list (pv 3)) (pg_name (i := 6) sc_texts.nd rfl (.inr rfl))
        (pss_one (ps_set (i := 5) sc_texts.nd rfl (.inl rfl) (pe_op op_cat (pv 5) (pe_lcn 7 sc_texts.nd (pi_str (pv 0)) (fun _ _ _ _ _ => pts_nil) (fun _ _ _ _ _ => pe_op op_add_str (pv 6) (pv 7)) (fun _ _ _ _ _ => pg_name (i := 7) sc_texts.nd rfl (.inl rfl)) (blkOk_by (N := nTexts) (sc := defScope sTexts) (own := [("sign", 7)]) (by decide +kernel)) rfl)))))
      (pss_one (ps_par (i := 2) (j := 3) rfl sc_texts.nd rfl rfl (by decide) rfl rfl (pa_cons (pe_op op_cat (pv 2) (pv 5)) (pa_cons (pv 5) pa_nil)) rfl)))))
    (pss_one (ps_ret (pv 2)))), ?_⟩
  refine ⟨Evl.sz_of (by show 1 ≤ _; decide), fun lf nf => ⟨Evl.sz_of (by show 1 ≤ _; decide), fun lh nh => ⟨_, _, rfl, ?_⟩⟩⟩
  refine Evl.q_forR1 (n := (n : Int)) (ds_ev (K := K) (ds_cons (d_var (i := 1) ⟨_, rfl, .int _⟩) ds_nil)) (by omega)
    (fun i σ' H' => ∃ (a b : Addr) (x4 x5 x6 x7 : Option V), σ' = [some (.str y), some (.int (n : Int)), some (.ref a), some (.ref b), x4, x5, x6, x7] ∧ Ex H H' ∧ H' a = some (.lst ((allT y i).map V.str)) ∧ H' b = some (.lst ((lastT y i).map V.str)))
    (fun H1 e1 => ⟨lf, lh, _, _, _, _, rfl, ((Ex.new nf).trans (Ex.new nh)).trans e1, e1 _ _ (Ex.new nh _ _ upd_same), e1 _ _ upd_same⟩) (fun i σ' H' hi p => ?_) fun σ' H' p => ?_
  · obtain ⟨a, b, x4, x5, x6, x7, rfl, p1, p2, p3⟩ := p
    have hi2 : i < n := by omega
    have l1 := last_len6 (n := i) hy (by omega)
    have l2 := last_len6 (n := i + 1) hy (by omega)
    have l3 := all_len6 hy i (by omega)
    refine ⟨Evl.sz_of (Nat.zero_le _), fun l nl => ?_⟩
    have e0 : Ex H' (upd H' l (.lst [])) := Ex.new nl
    refine ⟨_, rfl, _, rfl, ⟨_, Evl.sq_of (e0 _ _ p3)⟩, for_list (xs := (lastT y i).map V.str) (fun j σ2 H2 => ∃ (l : Addr) (x6 x7 : Option V), σ2 = [some (.str y), some (.int (n : Int)), some (.ref a), some (.ref b), some (.int (i : Int)), some (.ref l), x6, x7] ∧ Ex H' H2 ∧ H2 l = some (.lst ((nextT y ((lastT y i).take j)).map V.str)))
      ⟨l, _, _, rfl, e0, upd_same⟩ (fun j σ2 H2 _ ⟨_, _, _, _, p, _⟩ => Evl.sq_of (p _ _ p3)) (fun j x σ2 H2 hj r => ?_) fun σ2 H2 r => ?_⟩
    · obtain ⟨l, x6, x7, rfl, r1, r2⟩ := r
      have hjl : j < (lastT y i).length := by have := (List.getElem?_eq_some_iff.mp hj).1; rw [List.length_map] at this; exact this
      obtain ⟨t, ht⟩ : ∃ t, (lastT y i)[j]? = some t := ⟨_, List.getElem?_eq_getElem hjl⟩
      rw [List.getElem?_map, ht] at hj
      have hx : V.str t = x := Option.some.inj hj
      subst hx
      have tl := last_tl i t (List.mem_of_getElem? ht)
      have tkl := List.length_take_le' j (lastT y i)
      have nl2 : (nextT y ((lastT y i).take j)).length ≤ 16384 := by
        rw [next_len]
        exact Nat.le_trans (Nat.mul_le_mul tkl hy) (by omega)
      have yl : (sgns y).length = y.length := by unfold sgns; rw [List.length_map]; exact Array.length_toList
      refine s_ldA (K := K) (ds := (nextT y ((lastT y i).take (j + 1))).map PyData.str) ?_ fun p vs H3 e3 hp hv => ?_
      · have ed : (nextT y ((lastT y i).take (j + 1))).map PyData.str = (nextT y ((lastT y i).take j)).map PyData.str ++ (((sgns y).filter fun _ => true).map fun d => match d with | .str s => .str (t ++ s) | _ => .none) := by
          rw [next_take y ht, List.map_append, List.filter_eq_self.mpr fun _ _ => rfl]
          congr 1
          unfold sgns
          rw [List.map_map, List.map_map]
          rfl
        rw [ed]
        refine fun H4 x4' Q4 q4 => ?_
        have h1 : EvLD K (tVar 5) [some (.str y), some (.int (n : Int)), some (.ref a), some (.ref b), some (.int (i : Int)), some (.ref l), some (.str t), x7] H2 ((nextT y ((lastT y i).take j)).map PyData.str) := ld_var rfl r2 (dp_strs _)
        have h2 := ld_lcS (K := K) (σ := [some (.str y), some (.int (n : Int)), some (.ref a), some (.ref b), some (.int (i : Int)), some (.ref l), some (.str t), x7]) (H := H2) (tl := tVar 0) (gt := gName 7) (t := tYes) (te := tOp AsKit.rAddS (tVar 6) (tVar 7)) (vs := [7]) (z := y) (fun _ => true) (fun d => match d with | .str s => .str (t ++ s) | _ => .none) (d_var (i := 0) ⟨_, rfl, .str y⟩) (by omega) (fun d hd _ => by obtain ⟨c, _, rfl⟩ := List.mem_map.mp hd; rfl) fun c hc x H5 e5 hx k hk => hk _ rfl (fun H6 e6 Q q => q H6 (Ex.refl H6)) fun _ => d_addS (d_var (i := 6) ⟨_, rfl, .str t⟩) (d_var (i := 7) ⟨_, rfl, hx⟩) (by show t.length + 1 ≤ _; omega)
        refine h1 H4 x4' _ fun p vs H5 e5 hp hv => h2 H5 (x4'.trans e5) _ fun b2 ws H6 e6 hb2 hw => ?_
        have ly : y.cps.toList.length = y.length := Array.length_toList
        refine ⟨p, b2, vs, ws, rfl, rfl, e6 _ _ hp, hb2, Evl.sz_of ?_, fun r nr => q4 r _ _ ((e5.trans e6).trans (Ex.new nr)) upd_same (dpAll_app (dpAll_ex (Ex.new nr) hw) (dpAll_ex (e6.trans (Ex.new nr)) hv))⟩
        rw [dpAll_len hv, dpAll_len hw, List.length_map, List.length_map]
        have := List.length_filter_le (fun _ : PyData => true) (sgns y)
        omega
      · rw [strs_of hv] at hp
        exact ⟨p, _, _, rfl, r1.trans e3, hp⟩
    · obtain ⟨l, x6, x7, rfl, r1, r2⟩ := r
      rw [List.length_map, List.take_length] at r2
      refine ⟨.ref a, rfl, .ref l, rfl, a, l, _, _, rfl, rfl, r1 _ _ p2, r2, Evl.sz_of (by rw [List.length_map, List.length_map]; show _ + (lastT y (i + 1)).length ≤ _; omega), fun p np => ⟨.ref l, rfl, _, _, rfl, ?_⟩⟩
      exact ⟨p, l, _, _, _, _, rfl, (p1.trans r1).trans (Ex.new np), by rw [upd_same, ← List.map_append]; rfl, Ex.new np _ _ r2⟩
  · obtain ⟨a, b, x4, x5, x6, x7, rfl, p1, p2, p3⟩ := p
    rw [Int.toNat_natCast] at p2
    exact ⟨_, rfl, q a H' p1 p2⟩
end
end K24

set_option maxHeartbeats 4000000
set_option autoImplicit false
/-! sorted(xs) of texts, any number of them: some order. -/
namespace AsSortS
open PySem PySem.Spec PyProof.Rows L2 Srt
section
variable {prog : Program} {w : World} {A : Around} {s : Shared}
def sv : Value → Str
  | .str z _ => z
  | _ => ""
theorem strs_mem : ∀ {vs : List Value} {ns : List Str}, StrsAre vs ns → ∀ v ∈ vs, ∃ i t, v = Value.str i t
  | _, _, .nil, v, h => absurd h (by simp)
  | _, _, .cons n t r, v, h => by
    rcases List.mem_cons.mp h with e | h
    · exact ⟨n, t, e⟩
    · exact strs_mem r v h
theorem strs_sv : ∀ {vs : List Value}, (∀ v ∈ vs, ∃ i t, v = Value.str i t) → StrsAre vs (vs.map sv)
  | [], _ => .nil
  | v :: vs, h => by
    obtain ⟨i, t, e⟩ := h v List.mem_cons_self
    subst e
    exact .cons i t (strs_sv fun u hu => h u (List.mem_cons_of_mem _ hu))
theorem sv_strs : ∀ {vs : List Value} {ns : List Str}, StrsAre vs ns → vs.map sv = ns
  | _, _, .nil => rfl
  | _, _, .cons n t r => congrArg (n :: ·) (sv_strs r)
theorem strs_tot {vs : List Value} {ns : List Str} (hI : StrsAre vs ns) : Tot prog w A s oneType' (fun p => p.1 ∈ vs) := by
  intro p q hm hm'
  obtain ⟨a, t, e⟩ := strs_mem hI _ hm
  obtain ⟨b, u, e'⟩ := strs_mem hI _ hm'
  rw [e, e', keyLt'_oneType]
  exact ⟨_, oneLt_str ⟨rfl, rfl⟩⟩
theorem strs_sortable {a : Addr} {vs : List Value} {ns : List Str} (hI : StrsAre vs ns) (h2 : 2 ≤ vs.length) : Sortable prog w A s a vs := by
  intro h' _
  refine ⟨oneType', fun Q E hq => ?_, strs_tot hI⟩
  match vs, hI, h2 with
  | v1 :: v2 :: rest, hI, _ =>
    rw [keyKind_strs hI]
    exact wpAny_pure hq
  | [], _, h => exact absurd h (by decide)
  | [v], _, h => exact absurd h (by simp)
end
def rSortAny (K : PySem.W.Frag) : List V → Hp → VK → Prop := fun vs H Q => ∃ (a : Addr) (ss : List Str), vs = [V.ref a] ∧ SqL K H a (ss.map V.str) ∧ ∀ (ys : List Str) (p : Addr), ys.Perm ss → H p = none → Q (.ref p) (upd H p (.lst (ys.map V.str)))
section
variable {X : Cx}
theorem cr_sortAny : CallR X (.builtin "sorted") (rSortAny X.K) := by
  intro pins s σ H vs us Q I r h
  obtain ⟨a, ss, rfl, hs, q⟩ := h
  obtain ⟨its, rv, hl, hz⟩ := I.list hs
  rw [Vals.ref1 r]
  have hi := rv.strs
  refine sorted_any hl.isList (by rw [← rv.length]; exact hz) (fun h2 h₁ a' _ _ => strs_sortable hi h2) fun out ho => ?_
  have k1 : StrsAre out (out.map sv) := strs_sv fun v hv => strs_mem hi v (ho.mem_iff.mp hv)
  have k2 : (out.map sv).Perm ss := by
    have q := ho.map sv
    rw [sv_strs hi] at q
    exact q
  obtain ⟨ep, he'⟩ := PyProof.Rows.sortedAll_at s.heap its out.toArray
  have hlen : ((out.map sv).map V.str).length ≤ sizeLine := by
    rw [List.length_map, k2.length_eq]
    rw [List.length_map] at hz
    exact hz
  exact ⟨.ref _, upd H (s.heap.objs.size + 1) (.lst ((out.map sv).map V.str)), I.laid (t' := s.toks) (fun _ _ => PyProof.Rows.sortedAll_old) (Nat.le_succ _) ⟨hlen, out, ep, vals_of_strs k1, he'⟩, rfl, q _ _ k2 (I.hok.fresh (Nat.le_succ _))⟩
end
end AsSortS

set_option maxHeartbeats 4000000
set_option autoImplicit false
/-! a dict that is not {}. -/
namespace L2
open PySem PySem.Spec PyProof.Rows
section
variable {X : Cx}
def rNeE : R2 := fun x y H Q => ∃ a b ks, x = .ref a ∧ y = .ref b ∧ H a = some (.dK ks) ∧ H b = some (.dK []) ∧ Q (.bl (!decide (ks.length = 0))) H
theorem op_ne_empty (hu : X.A.units < cLine) : OpR X (compareOp .NotEq) rNeE := by
  intro pins s σ H x y v u Q I rx ry h
  obtain ⟨a, b, ks, rfl, rfl, ea, eb, q⟩ := h
  obtain rfl : v = Value.ref a := rx
  obtain rfl : u = Value.ref b := ry
  obtain ⟨_, ya, va, ra, da⟩ := (show ObjOk X.prog X.w H s.heap a (.dK ks) from I.hok a _ ea)
  obtain ⟨_, yb, vb, rb, db⟩ := (show ObjOk X.prog X.w H s.heap b (.dK []) from I.hok b _ eb)
  have l1 : va.length = ks.length := ra.length.symm
  have l2 : vb.length = 0 := rb.length.symm
  cases ks with
  | nil => exact PySem.W.keq_ne (knd := mixKind X.prog X.w) (r := true) ya yb da db hu (fun _ => hits_all rb ra (fun p hp => absurd hp List.not_mem_nil)) (fin_bl I q (by rw [l1, l2]; simp))
  | cons k ks => exact PySem.W.keq_ne (knd := mixKind X.prog X.w) (r := true) ya yb da db hu (fun e => by rw [l1, l2] at e; simp at e) (fin_bl I q (by rw [l1, l2]; simp))
end
end L2

set_option maxHeartbeats 4000000
set_option autoImplicit false
/-! the law's ends. -/
namespace K24
open PySem PySem.Spec PyProof.Rows L2 AsSort AsKit AsMax AsMin AsSortS
open Evl (Ex Ev EvT EvA)
open LamX (ExtN TabB)
open NdefX (TabsN NTab NScope nscope_by NF startF)
def EsOk (ms : List (Str × Str)) (s : Str) (es : List Str) : Prop := es.Nodup ∧ ∀ e : Str, e ∈ es ↔ Nf (kcs ms) (cv s) (cv e)
def KnOk (ms : List (Str × Str)) (D0 : Addr) (H : Hp) (kvs : List (Key × V)) : Prop := ∀ s w, valV kvs (.inr s) = some w → ∃ (l : Addr) (es : List Str), w = .ref l ∧ l ≠ D0 ∧ H l = some (.lst (es.map V.str)) ∧ EsOk ms s es
/-- texts as keys, each once -/
def KeyL (kvs : List (Key × V)) (fs : List Str) : Prop := kvs.map (·.1) = fs.map Sum.inr ∧ fs.Nodup
theorem KeyL.put {kvs : List (Key × V)} {fs : List Str} (h : KeyL kvs fs) (e : Str) (v : V) : KeyL (putK kvs (.inr e) v) (if e ∈ fs then fs else fs ++ [e]) := by
  obtain ⟨h1, h2⟩ := h
  have hm : (Sum.inr e ∈ kvs.map (·.1)) ↔ e ∈ fs := by
    rw [h1]
    constructor
    · intro h
      obtain ⟨x, hx, ex⟩ := List.mem_map.mp h
      cases ex
      exact hx
    · intro h
      exact List.mem_map.mpr ⟨e, h, rfl⟩
  have ha : (kvs.any fun kv => decide (kv.1 = Sum.inr e)) = decide (e ∈ fs) := by
    rw [Bool.eq_iff_iff, decide_eq_true_eq, List.any_eq_true, ← hm]
    constructor
    · rintro ⟨kv, h, e2⟩
      exact List.mem_map.mpr ⟨kv, h, of_decide_eq_true e2⟩
    · intro h
      obtain ⟨kv, h, e2⟩ := List.mem_map.mp h
      exact ⟨kv, h, decide_eq_true e2⟩
  unfold putK
  rw [ha]
  by_cases hin : e ∈ fs
  · rw [if_pos (decide_eq_true hin), if_pos hin]
    refine ⟨?_, h2⟩
    rw [List.map_map, ← h1]
    refine List.map_congr_left fun kv _ => ?_
    show (if kv.1 = Sum.inr e then (kv.1, v) else kv).1 = kv.1
    split <;> rfl
  · rw [if_neg (by simpa using hin), if_neg hin]
    refine ⟨by rw [List.map_append, List.map_append, h1]; rfl, ?_⟩
    rw [List.nodup_append]
    exact ⟨h2, List.pairwise_singleton _ _, fun a ha b hb => by rw [List.mem_singleton.mp hb]; exact fun z => hin (z ▸ ha)⟩
theorem KeyL.len {kvs : List (Key × V)} {fs : List Str} (h : KeyL kvs fs) : kvs.length = fs.length := by
  have := congrArg List.length h.1
  rw [List.length_map, List.length_map] at this
  exact this
theorem nodup_len {α : Type} [DecidableEq α] : ∀ (l m : List α), l.Nodup → (∀ x ∈ l, x ∈ m) → l.length ≤ m.length
  | [], m, _, _ => Nat.zero_le _
  | x :: l, m, hn, hs => by
    have hx := hs x (List.mem_cons_self ..)
    obtain ⟨h1, h2⟩ := List.nodup_cons.mp hn
    have ih := nodup_len l (m.erase x) h2 fun z hz => (List.mem_erase_of_ne (fun e => h1 (by rw [← e]; exact hz))).mpr (hs z (List.mem_cons_of_mem _ hz))
    rw [List.length_erase_of_mem hx] at ih
    have := List.length_pos_of_mem hx
    rw [List.length_cons]
    omega
theorem all_len3 {y : Str} (h : y.length ≤ 3) : (allT y 7).length ≤ 20000 := by
  have l : ∀ n, (lastT y n).length ≤ 3 ^ n := fun n => by
    induction n with
    | zero => exact Nat.le_refl _
    | succ n ih =>
      show (nextT y (lastT y n)).length ≤ _
      rw [next_len, Nat.pow_succ]
      exact Nat.mul_le_mul ih h
  have m : ∀ n, n ≤ 7 → (lastT y n).length ≤ 2187 := fun n hn => Nat.le_trans (l n) (Nat.le_trans (Nat.pow_le_pow_right (by decide) hn) (by decide))
  have a : ∀ n, n ≤ 7 → (allT y n).length ≤ (n + 1) * 2187 := fun n => by
    induction n with
    | zero => intro _; show 1 ≤ _; decide
    | succ n ih =>
      intro hn
      show (allT y n ++ lastT y (n + 1)).length ≤ _
      rw [List.length_append]
      have := ih (by omega)
      have := m (n + 1) hn
      omega
  have := a 7 (Nat.le_refl _)
  omega
def KeysT (y : Str) (kvs : List (Key × V)) : Prop := ∃ fs, KeyL kvs fs ∧ ∀ s ∈ fs, s ∈ allT y 7
theorem KeysT.len {y : Str} {kvs : List (Key × V)} (hy : y.length ≤ 3) (h : KeysT y kvs) : kvs.length ≤ 20000 := by
  obtain ⟨fs, h1, h2⟩ := h
  rw [h1.len]
  exact Nat.le_trans (nodup_len fs _ h1.2 h2) (all_len3 hy)
theorem KeysT.put {y : Str} {kvs : List (Key × V)} (h : KeysT y kvs) {s : Str} (hs : s ∈ allT y 7) (v : V) : KeysT y (putK kvs (.inr s) v) := by
  obtain ⟨fs, h1, h2⟩ := h
  refine ⟨_, h1.put s v, fun x hx => ?_⟩
  split at hx
  · exact h2 x hx
  · rcases List.mem_append.mp hx with hx | hx
    · exact h2 x hx
    · rw [List.mem_singleton.mp hx]; exact hs
theorem star_over {y : Str} {ms : List (Str × Str)} (hm : Men y ms) {a b : Wd} (h : Star (kcs ms) a b) (o : Ov (· ∈ cv y) a) : Ov (· ∈ cv y) b ∧ b.length ≤ a.length := by
  induction h with
  | refl => exact ⟨o, Nat.le_refl _⟩
  | step s _ ih =>
    have o2 := Ov.step (Y := (· ∈ cv y)) (fun k' hk' => by
      obtain ⟨k, hk, rfl⟩ := List.mem_map.mp hk'
      exact fun q hq => of_decide_eq_true (List.all_eq_true.mp (hm k hk).1.2.2.2.1 q hq)) s o
    have l := step_less (sh_of hm) s
    have := ih o2
    exact ⟨this.1, by omega⟩
theorem nf_in {y : Str} {ms : List (Str × Str)} (hm : Men y ms) {c e : Str} (hc : allIn y c = true) (hl : c.length ≤ 7) (h : Nf (kcs ms) (cv c) (cv e)) : e ∈ allT y 7 := by
  have := star_over hm h.1 (fun q hq => of_decide_eq_true (List.all_eq_true.mp hc q hq))
  rw [cv_len, cv_len] at this
  exact mem_all 7 e (by omega) (List.all_eq_true.mpr fun q hq => decide_eq_true (this.1 q hq))
theorem nf_nil {ms : List (Str × Str)} {z : Str} (h : behinds ms z = []) : EsOk ms z [z] := by
  have irr : ∀ c, ¬ Step (kcs ms) (cv z) c := fun c hc => by
    obtain ⟨d, hd, _⟩ := of_step hc
    rw [h] at hd
    exact absurd hd List.not_mem_nil
  refine ⟨List.pairwise_singleton _ _, fun e => ?_⟩
  rw [List.mem_singleton]
  constructor
  · rintro rfl
    exact ⟨.refl _, irr⟩
  · rintro ⟨s, _⟩
    generalize hw : cv e = w at s
    cases s with
    | refl => exact cv_inj hw
    | step s _ => exact absurd s (irr _)
theorem nf_cons {ms : List (Str × Str)} {z e : Str} (h : behinds ms z ≠ []) : Nf (kcs ms) (cv z) (cv e) ↔ ∃ c, c ∈ behinds ms z ∧ Nf (kcs ms) (cv c) (cv e) := by
  constructor
  · rintro ⟨s, n⟩
    obtain ⟨c0, hc0⟩ := List.exists_mem_of_ne_nil _ h
    generalize hw : cv e = w at s n
    cases s with
    | refl => exact absurd (step_of hc0) (n _)
    | step s r =>
      obtain ⟨c, hc, rfl⟩ := of_step s
      exact ⟨c, hc, r, n⟩
  · rintro ⟨c, hc, r, n⟩
    exact ⟨.step (step_of hc) r, n⟩
theorem kn_kp {ms : List (Str × Str)} {D0 : Addr} {H H' : Hp} {d : Addr} {kvs kvs0 : List (Key × V)} (hd : H d = some (.dK kvs0)) (e : Kp d H H') (h : KnOk ms D0 H kvs) : KnOk ms D0 H' kvs := fun s w hw => by
  obtain ⟨l, es, h1, hN, h2, h3⟩ := h s w hw
  exact ⟨l, es, h1, hN, e _ _ (fun z => by rw [z, hd] at h2; cases h2) h2 (fun _ z => nomatch z), h3⟩
section
variable {P : Program} {w : World} {K : PySem.W.Frag} {mg : Str → Option Value} {base : Heap}
abbrev sEnds : Stmt := top 44
abbrev nEnds : List Str := ["mender", "text", "known", "found", "deed", "one"]
theorem sc_ends : FnScope nEnds ["mender", "text", "known"] (defScope sEnds) := ⟨rfl, rfl, rfl, by decide +kernel, rfl, by decide +kernel, by decide +kernel⟩
def spEnds (K : PySem.W.Frag) (Ts : List NTab) (n : Nat) : Sp := fun vs H Q _ => ∃ (v : V) (y : Str) (ms : List (Str × Str)) (z : Str) (d : Addr) (kvs : List (Key × V)) (D0 : Addr) (xs0 : List V), vs = [v, .str z, .ref d] ∧ Dp K H v (.tuple (ms.map kD)) ∧ Men y ms ∧ y.length ≤ 3 ∧ ms.length ≤ 12 ∧ allIn y z = true ∧ z.length ≤ 7 ∧ z.length < n ∧ H d = some (.dK kvs) ∧ KnOk ms D0 H kvs ∧ H D0 = some (.lst xs0) ∧ KeysT y kvs ∧ TabsN Ts H ∧
  ∀ (l : Addr) (es : List Str) (H' : Hp) (kvs' : List (Key × V)), Kp d H H' → H' d = some (.dK kvs') → KnOk ms D0 H' kvs' → KeysT y kvs' → TabsN Ts H' → H' l = some (.lst (es.map V.str)) → EsOk ms z es → Q (.ref l) H'
/-- what is found by so many copies -/
def FoOk (ms : List (Str × Str)) (bs : List Str) (kF : List (Key × V)) : Prop := ∃ fs, KeyL kF fs ∧ ∀ e : Str, e ∈ fs ↔ ∃ c, c ∈ bs ∧ Nf (kcs ms) (cv c) (cv e)
theorem q_mid {t u : TS} {D : Ends} {σ : L2.St} {H : Hp} (R : L2.St → Hp → Prop) (hr : ∀ σ1 H1, R σ1 H1 → u D σ1 H1) (k : (∀ σ1 H1, R σ1 H1 → u D σ1 H1) → t { D with nx := u D } σ H) : tSeq t u D σ H := k hr
theorem c_ends {Ts : List NTab} (D : Df K mg "_law_ends" sEnds) (hb : Bl mg) (CD : Cl P w K mg base 5 "_law_deeds" (spDeedsL K Ts) []) (CB : Cl P w K mg base 1 "_law_behind" (spTextBehind K) []) : ∀ n, Cl P w K mg base (n + 6) "_law_ends" (spEnds K Ts n) []
  | 0 => by
    refine cl_of D sc_ends (fun vs H Q E ⟨v, y, ms, z, d, kvs, _, _, h, _⟩ => by rw [h]; rfl) (fun _ _ _ _ _ _ us hl => match us, hl with | [_, _, _], _ => rfl) fun f cdv A outer s H vs Q E hr h => ?_
    obtain ⟨v, y, ms, z, d, kvs, _, _, _, _, _, _, _, _, _, h, _⟩ := h
    exact absurd h (Nat.not_lt_zero _)
  | n + 1 => by
    have CR := c_ends D hb CD CB n
    refine cl_of D sc_ends (fun vs H Q E ⟨v, y, ms, z, d, kvs, _, _, h, _⟩ => by rw [h]; rfl) (fun _ _ _ _ _ _ us hl => match us, hl with | [_, _, _], _ => rfl) fun f cdv A outer s H vs Q E hr h => ?_
    obtain ⟨v, y, ms, z, d, kvs, D0, xs0, rfl, h0, hm, hy, hml, zo, zl, zn, hd, hkn, h00, hkt, hT, q⟩ := h
    have nD0 : D0 ≠ d := fun e => by rw [e, hd] at h00; cases h00
    have hu : (A.deeper (envOfC "_law_ends" (defScope sEnds) s.heap.objs.size f cdv)).units + 1 < cLine := by have := hr.un; omega
    refine ⟨_, pss_cons (ps_if (pt_cmp (pc_dnotin hu (pv 1) (pv 2)))
      (pss_cons (ps_set (i := 3) sc_ends.nd rfl (.inl rfl) pe_dnewK)
      (pss_cons (ps_for PassesOwn.never rfl (pi_list (C8.pe_c CD hr (by omega) (by rfl) (pa_cons (pv 0) (pa_cons (pv 1) pa_nil)))) (pg_name (i := 4) sc_ends.nd rfl (.inl rfl))
        (pss_one (ps_for PassesOwn.never rfl (pi_list (C8.pe_c CR hr (Nat.le_refl _) (by rfl) (pa_cons (pv 0) (pa_cons (C8.pe_c CB hr (by omega) (by rfl) (pa_cons (pv 1) (pa_cons (pv 4) pa_nil))) (pa_cons (pv 2) pa_nil))))) (pg_name (i := 5) sc_ends.nd rfl (.inl rfl))
          (pss_one (ps_dput hu (pv 3) (pv 5) pe_bl rfl)))))
      (pss_one (ps_dput hu (pv 2) (pv 1) (pe_ifExp (pt_cmpR (op_ne_empty (Nat.lt_of_succ_lt hu)) (pv 3) pe_dnewK rfl) (pe_callB cr_sortAny (by rfl) (hb _ (by decide +kernel)) (by decide +kernel) (pa_cons (pe_callTy (call_list_dK rfl) (by rfl) (hb _ (by decide +kernel)) (by decide +kernel) (pa_cons (pv 3) pa_nil)) pa_nil)) (pe_lst (pa_cons (pv 1) pa_nil))) rfl)))) pss_nil)
      (pss_one (ps_ret (pe_dget hu (pv 2) (pv 1) (fun _ _ => rfl)))), ?_⟩
    have bhz : ∀ c ∈ behinds ms z, allIn y c = true ∧ c.length ≤ 7 ∧ c.length < n := fun c hc => by
      have := bh_less hm hc
      exact ⟨bh_over hm zo hc, by omega, by omega⟩
    have zin : z ∈ allT y 7 := mem_all 7 z zl zo
    refine q_mid (fun σ1 H1 => ∃ x3 x4 x5 kvs' l es, σ1 = [some v, some (.str z), some (.ref d), x3, x4, x5] ∧ Kp d H H1 ∧ H1 d = some (.dK kvs') ∧ KnOk ms D0 H1 kvs' ∧ KeysT y kvs' ∧ TabsN Ts H1 ∧ valV kvs' (.inr z) = some (.ref l) ∧ H1 l = some (.lst (es.map V.str)) ∧ EsOk ms z es) (fun σ1 H1 hR => ?_) fun rest => ?_
    · obtain ⟨x3, x4, x5, kvs', l, es, rfl, r1, r2, r3, r4, r5, r6, r7, r8⟩ := hR
      exact ⟨.ref d, rfl, .str z, rfl, d, .ref l, rfl, by rw [← r6]; exact DGet.k (k := .inr z) r2, q l es H1 kvs' r1 r2 r3 r4 r5 r7 r8⟩
    have tst : EvT (tB (tDNotIn (tVar 1) (tVar 2))) (L2.start nEnds [v, .str z, .ref d]) H (!(valV kvs (.inr z)).isSome) := fun H1 e Q q => ⟨.str z, rfl, .ref d, rfl, d, valV kvs (.inr z), rfl, DGet.k (k := .inr z) (e _ _ hd), _, rfl, q H1 (Ex.refl _)⟩
    refine Evl.s_when tst (fun hb1 H1 e1 => ?_) fun hb1 H1 e1 => ?_
    · refine fun df ndf => ?_
      dsimp only [gName]
      have hd1 := e1 _ _ hd
      have ndd : df ≠ d := fun e => by rw [e, hd1] at ndf; cases ndf
      obtain ⟨G0, eG0⟩ : ∃ G0, G0 = upd H1 df (.dK []) := ⟨_, rfl⟩
      have xG0 : Ex H1 G0 := by rw [eG0]; exact Ex.new ndf
      have hdf0 : G0 df = some (.dK []) := by rw [eG0, upd_same]
      rw [← eG0]
      have x0 := e1.trans xG0
      have nHf : H df = none := by
        cases hq : H df with
        | none => rfl
        | some o => have := e1 _ _ hq; rw [ndf] at this; cases this
      have lens : ∀ p ∈ ms, p.1.length ≤ 40 ∧ p.2.length ≤ 40 := fun p hp => by
        have g := (hm p hp).1
        exact ⟨by have := g.1; omega, by have := g.2.1; omega⟩
      refine ⟨v, rfl, .str z, rfl, v, ms, z, rfl, dp_ex x0 h0, by omega, by omega, lens, hT.ext x0, fun lD acc H2 e2 t2 hlD hacc => ?_⟩
      have k2 : Kp d H H2 := (kp_ex x0).trans (kp_ext e2)
      have hd2 := e2 _ _ (x0 _ _ hd) (fun _ e => nomatch e)
      have hf2 := e2 _ _ hdf0 (fun _ e => nomatch e)
      have bl : (behinds ms z).length = acc.length := by rw [dpAll_len hacc]; exact List.length_map ..
      have nlf : lD ≠ df := fun e => by rw [e, hf2] at hlD; cases hlD
      have fin_small : ∀ (bs : List Str) (fs : List Str) (kF : List (Key × V)), (∀ c ∈ bs, c ∈ behinds ms z) → KeyL kF fs → (∀ e ∈ fs, ∃ c, c ∈ bs ∧ Nf (kcs ms) (cv c) (cv e)) → kF.length ≤ 20000 := fun bs fs kF hbs hk hf => by
        rw [hk.len]
        refine Nat.le_trans (nodup_len fs (allT y 7) hk.2 fun e he => ?_) (all_len3 hy)
        obtain ⟨c, hc, hn⟩ := hf e he
        obtain ⟨c1, c2, _⟩ := bhz c (hbs c hc)
        exact nf_in hm c1 c2 hn
      refine ⟨lD, rfl, ⟨_, Evl.sq_of hlD⟩, for_list (xs := acc) (fun j σ' G => ∃ x4 x5 kvs' kF, σ' = [some v, some (.str z), some (.ref d), some (.ref df), x4, x5] ∧ Kp d H G ∧ Kp d H2 (upd G df (.dK [])) ∧ G df = some (.dK kF) ∧ G d = some (.dK kvs') ∧ KnOk ms D0 G kvs' ∧ KeysT y kvs' ∧ TabsN Ts G ∧ G lD = some (.lst acc) ∧ FoOk ms ((behinds ms z).take j) kF)
        ⟨_, _, kvs, [], rfl, k2, fun b o nb hb nt => ?_, hf2, hd2, kn_kp hd k2 hkn, hkt, t2, hlD, [], ⟨rfl, List.nodup_nil⟩, fun e => ⟨fun h => absurd h List.not_mem_nil, fun ⟨c, hc, _⟩ => absurd hc (by rw [List.take_zero]; exact List.not_mem_nil)⟩⟩ (fun j σ' G _ p => ?_) (fun j x2 σ' G hj p => ?_) fun σ' G p => ?_⟩
      · by_cases e : b = df
        · rw [e, upd_same, ← hb, e]
          exact hf2.symm
        · exact (upd_ne e).trans hb
      · obtain ⟨_, _, _, _, _, _, _, _, _, _, _, _, p, _⟩ := p
        exact Evl.sq_of p
      · obtain ⟨x4, x5, kvs1, kF, rfl, p1, p2, p3, p4, p5, p6, p7, p8, fs, p9, p10⟩ := p
        have hjl := (List.getElem?_eq_some_iff.mp hj).1
        have hjd : j < (deedsL ms z).length := by rw [← dpAll_len hacc]; exact hjl
        obtain ⟨dd, hdd⟩ : ∃ dd, (deedsL ms z)[j]? = some dd := ⟨_, List.getElem?_eq_getElem hjd⟩
        obtain ⟨p, k, rfl, hk, hh, hp⟩ := deed_in (List.mem_of_getElem? hdd)
        have hc : (behinds ms z)[j]? = some (bhS z p k) := by unfold behinds; rw [List.getElem?_map, hdd]; rfl
        have hcm := List.mem_of_getElem? hc
        obtain ⟨co, cl, cn⟩ := bhz _ hcm
        have hx2 : Dp K G x2 (dD p k) := dp_kp (d := df) (kvs := []) upd_same (fun b o nb hb nt => (upd_ne nb).symm.trans hb) (dp_kp hd2 p2 (dpAll_get hacc hj hdd))
        have kl := lens k hk
        dsimp only [gName]
        have hv3 : Dp K G v (.tuple (ms.map kD)) := dp_kp hd p1 h0
        refine ⟨v, rfl, (show EvD K (tCall (spTextBehind K) [] C8.E0 (tCons (tVar 1) (tCons (tVar 4) tNil))) [some v, some (.str z), some (.ref d), some (.ref df), some x2, x5] G (.str (bhS z p k)) from d_call (ds_cons (d_var (i := 1) ⟨_, rfl, .str z⟩) (ds_cons (d_var (i := 4) ⟨_, rfl, hx2⟩) ds_nil)) ⟨z, p, k, rfl, by omega, kl.1, kl.2⟩) G (Ex.refl G) _ fun u G1 g1 hu1 => ?_⟩
        cases hu1
        have kg1 : Kp d G G1 := kp_ex g1
        refine ⟨.ref d, rfl, v, y, ms, bhS z p k, d, kvs1, D0, xs0, rfl, dp_ex g1 hv3, hm, hy, hml, co, cl, cn, g1 _ _ p4, kn_kp p4 kg1 p5, g1 _ _ (p1 _ _ nD0 h00 (fun _ e => nomatch e)), p6, p7.ext g1, fun l1 es1 G2 kvs2 kk2 hd3 kn2 kt2 tt2 hl1 hes1 => ?_⟩
        have hf3 : G2 df = some (.dK kF) := kk2 _ _ ndd (g1 _ _ p3) (fun _ e => nomatch e)
        have nl1 : l1 ≠ df := fun e => by rw [e, hf3] at hl1; cases hl1
        have nlDd : lD ≠ d := fun e => by rw [e, p4] at p8; cases p8
        have nl1d : l1 ≠ d := fun e => by rw [e, hd3] at hl1; cases hl1
        have hlD3 := kk2 _ _ nlDd (g1 _ _ p8) (fun _ e => nomatch e)
        have pre : ∀ G', Kp d G G' → Kp d H2 (upd G' df (.dK [])) := fun G' kg b o nb hb nt => by
          have h5 := p2 b o nb hb nt
          by_cases e : b = df
          · subst e
            rw [upd_same] at h5 ⊢
            exact h5
          · rw [upd_ne e] at h5 ⊢
            exact kg _ _ nb h5 nt
        refine ⟨l1, rfl, ⟨_, Evl.sq_of hl1⟩, for_list (xs := es1.map V.str) (fun i σ' G' => ∃ x5 kF', σ' = [some v, some (.str z), some (.ref d), some (.ref df), some x2, x5] ∧ Kp d H G' ∧ Kp d H2 (upd G' df (.dK [])) ∧ G' df = some (.dK kF') ∧ G' d = some (.dK kvs2) ∧ KnOk ms D0 G' kvs2 ∧ TabsN Ts G' ∧ G' lD = some (.lst acc) ∧ G' l1 = some (.lst (es1.map V.str)) ∧ ∃ fs', KeyL kF' fs' ∧ ∀ e : Str, e ∈ fs' ↔ (e ∈ fs ∨ e ∈ es1.take i))
          ⟨_, kF, rfl, p1.trans (kg1.trans kk2), pre _ (kg1.trans kk2), hf3, hd3, kn2, tt2, hlD3, hl1, fs, p9, fun e => by rw [List.take_zero]; simp⟩ (fun i σ' G' _ p => ?_) (fun i x σ' G' hi p => ?_) fun σ' G' p => ?_⟩
        · obtain ⟨_, _, _, _, _, _, _, _, _, _, p, _⟩ := p
          exact Evl.sq_of p
        · obtain ⟨x5', kF', rfl, r1, r2, r3, r4, r5, r6, r7, r8, fs', r9, r10⟩ := p
          have hil : i < es1.length := by have := (List.getElem?_eq_some_iff.mp hi).1; rw [List.length_map] at this; exact this
          obtain ⟨e, he⟩ : ∃ e, es1[i]? = some e := ⟨_, List.getElem?_eq_getElem hil⟩
          rw [List.getElem?_map, he] at hi
          have hx : V.str e = x := Option.some.inj hi
          subst hx
          dsimp only [gName]
          have sm : kF'.length ≤ 20000 := fin_small ((behinds ms z).take (j + 1)) fs' kF' (fun c hc => List.mem_of_mem_take hc) r9 fun e he => by
            rcases (r10 e).mp he with h | h
            · obtain ⟨c, hc, hn⟩ := (p10 e).mp h
              exact ⟨c, by rw [List.take_add_one]; exact List.mem_append_left _ hc, hn⟩
            · exact ⟨bhS z p k, by rw [List.take_add_one, hc]; simp, (hes1.2 e).mp (List.mem_of_mem_take h)⟩
          refine ⟨.ref df, rfl, .str e, rfl, df, _, rfl, DPut.k (k := .inr e) r3 (Evl.sz_lt (by omega)), ?_⟩
          have kpf : Kp df G' (upd G' df (.dK (putK kF' (.inr e) (.bl true)))) := kp_upd
          refine ⟨_, _, rfl, fun b o nb hb nt => (upd_ne (fun q => by rw [q, nHf] at hb; cases hb)).trans (r1 _ _ nb hb nt), fun b o nb hb nt => ?_, upd_same, (upd_ne ndd.symm).trans r4, kn_kp r3 kpf r5, tabs_dK r3 r6, (upd_ne nlf).trans r7, (upd_ne nl1).trans r8, _, r9.put e _, fun q => ?_⟩
          · have h5 := r2 b o nb hb nt
            by_cases eb : b = df
            · subst eb
              rw [upd_same] at h5 ⊢
              exact h5
            · rw [upd_ne eb] at h5
              rw [upd_ne eb, upd_ne eb]
              exact h5
          · rw [List.take_add_one, he]
            show q ∈ (if e ∈ fs' then fs' else fs' ++ [e]) ↔ q ∈ fs ∨ q ∈ es1.take i ++ [e]
            have hq := r10 q
            have hee := r10 e
            by_cases hin : e ∈ fs'
            · rw [if_pos hin, hq, List.mem_append, List.mem_singleton]
              constructor
              · rintro (h | h)
                · exact .inl h
                · exact .inr (.inl h)
              · rintro (h | h | h)
                · exact .inl h
                · exact .inr h
                · rw [h]; exact hee.mp hin
            · rw [if_neg hin, List.mem_append, List.mem_append, List.mem_singleton, hq, or_assoc]
        · obtain ⟨x5', kF', rfl, r1, r2, r3, r4, r5, r6, r7, r8, fs', r9, r10⟩ := p
          rw [List.length_map, List.take_length] at r10
          refine ⟨_, _, kvs2, kF', rfl, r1, r2, r3, r4, r5, kt2, r6, r7, fs', r9, fun e => ?_⟩
          rw [r10, p10, List.take_add_one, hc]
          constructor
          · rintro (⟨c, h1, h2⟩ | h)
            · exact ⟨c, List.mem_append_left _ h1, h2⟩
            · exact ⟨bhS z p k, by simp, (hes1.2 e).mp h⟩
          · rintro ⟨c, h1, h2⟩
            rcases List.mem_append.mp h1 with h1 | h1
            · exact .inl ⟨c, h1, h2⟩
            · have : c = bhS z p k := by simpa using h1
              subst this
              exact .inr ((hes1.2 e).mpr h2)
      · obtain ⟨x4, x5, kvs', kF, rfl, p1, p2, p3, p4, p5, p6, p7, p8, fs, p9, p10⟩ := p
        rw [← bl, List.take_length] at p10
        have kb : behinds ms z = [] ↔ kF.length = 0 := by
          rw [p9.len]
          constructor
          · intro e
            cases fs with
            | nil => rfl
            | cons f fs => 
              obtain ⟨c, hc, _⟩ := (p10 f).mp (List.mem_cons_self ..)
              rw [e] at hc
              exact absurd hc List.not_mem_nil
          · intro e
            refine List.eq_nil_iff_forall_not_mem.mpr fun c hc => ?_
            have := (p10 (EM ms c)).mpr ⟨c, hc, nf_EM hm _ c (Nat.lt_succ_self _)⟩
            rw [List.length_eq_zero_iff.mp e] at this
            exact absurd this List.not_mem_nil
        have fin : ∀ (l : Addr) (es : List Str) (G2 : Hp) (x5 : Option V), Ex G G2 → l ≠ D0 → G2 l = some (.lst (es.map V.str)) → EsOk ms z es → ∃ y3 y4 y5 kvs2 l2 es2, ([some v, some (.str z), some (.ref d), some (.ref df), x4, x5] : L2.St) = [some v, some (.str z), some (.ref d), y3, y4, y5] ∧ Kp d H (upd G2 d (.dK (putK kvs' (.inr z) (.ref l)))) ∧ (upd G2 d (.dK (putK kvs' (.inr z) (.ref l)))) d = some (.dK kvs2) ∧ KnOk ms D0 (upd G2 d (.dK (putK kvs' (.inr z) (.ref l)))) kvs2 ∧ KeysT y kvs2 ∧ TabsN Ts (upd G2 d (.dK (putK kvs' (.inr z) (.ref l)))) ∧ valV kvs2 (.inr z) = some (.ref l2) ∧ (upd G2 d (.dK (putK kvs' (.inr z) (.ref l)))) l2 = some (.lst (es2.map V.str)) ∧ EsOk ms z es2 := fun l es G2 x5 x nlD hl he => by
          have hd4 := x _ _ p4
          have nld : l ≠ d := fun e => by rw [e, hd4] at hl; cases hl
          have hl4 : (upd G2 d (.dK (putK kvs' (.inr z) (.ref l)))) l = some (.lst (es.map V.str)) := (upd_ne nld).trans hl
          have kn4 := kn_kp (H' := upd G2 d (.dK (putK kvs' (.inr z) (.ref l)))) hd4 kp_upd (kn_kp p4 (kp_ex x) p5)
          refine ⟨_, _, _, putK kvs' (.inr z) (.ref l), l, es, rfl, (p1.trans (kp_ex x)).trans kp_upd, upd_same, fun s w hw => ?_, p6.put zin _, tabs_dK hd4 (p7.ext x), (valV_put ..).trans (if_pos rfl), hl4, he⟩
          rw [valV_put] at hw
          by_cases es' : (Sum.inr s : Key) = .inr z
          · rw [if_pos es'] at hw
            cases hw
            cases es'
            exact ⟨l, es, rfl, nlD, hl4, he⟩
          · rw [if_neg es'] at hw
            exact kn4 s w hw
        have szk : kvs'.length < sizeLine := Evl.sz_lt (by have := p6.len hy; omega)
        refine ⟨.ref df, rfl, fun p0 np0 => ⟨df, p0, kF, rfl, rfl, (upd_ne (fun e => by rw [e, np0] at p3; cases p3)).trans p3, upd_same, _, rfl, ?_⟩⟩
        have x1 : Ex G (upd G p0 (.dK [])) := Ex.new np0
        obtain ⟨G1, eG1⟩ : ∃ G1, G1 = upd G p0 (.dK []) := ⟨_, rfl⟩
        rw [← eG1] at x1 ⊢
        have h05 : G1 D0 = some (.lst xs0) := x1 _ _ (p1 _ _ nD0 h00 (fun _ e => nomatch e))
        have hd5 := x1 _ _ p4
        have hf5 := x1 _ _ p3
        show (if (!decide (kF.length = 0)) = true then _ else _)
        by_cases h0 : kF.length = 0
        · rw [if_neg (by rw [decide_eq_true h0]; decide)]
          refine ⟨.str z, rfl, Nat.le_of_lt (Evl.sz_lt (by show 1 < 100000; decide)), fun l nl => ?_⟩
          have x2 : Ex G1 (upd G1 l (.lst ([z].map V.str))) := Ex.new nl
          exact ⟨.ref d, rfl, .str z, rfl, d, _, rfl, DPut.k (k := .inr z) (x2 _ _ hd5) szk, rest _ _ (fin l [z] _ x5 (x1.trans x2) (fun e => by rw [e, h05] at nl; cases nl) upd_same (nf_nil (kb.mpr h0)))⟩
        · rw [if_pos (by rw [decide_eq_false h0]; rfl)]
          refine ⟨.ref df, rfl, df, kF, rfl, hf5, fun q nq => ?_⟩
          have x2 : Ex G1 (upd G1 q (.lst (kF.map fun kv => kV kv.1))) := Ex.new nq
          have ek : (kF.map fun kv => kV kv.1) = fs.map V.str := by
            have := congrArg (List.map kV) p9.1
            rw [List.map_map, List.map_map] at this
            exact this
          refine ⟨q, fs, rfl, Evl.sq_of (by rw [upd_same, ← ek]), fun ys p perm np => ?_⟩
          have x3 : Ex (upd G1 q (.lst (kF.map fun kv => kV kv.1))) (upd (upd G1 q (.lst (kF.map fun kv => kV kv.1))) p (.lst (ys.map V.str))) := Ex.new np
          refine ⟨.ref d, rfl, .str z, rfl, d, _, rfl, DPut.k (k := .inr z) (x3 _ _ (x2 _ _ hd5)) szk, rest _ _ (fin p ys _ x5 (x1.trans (x2.trans x3)) (fun e => by have := x2 _ _ h05; rw [← e, np] at this; cases this) upd_same ⟨perm.nodup_iff.mpr p9.2, fun e => ?_⟩)⟩
          rw [perm.mem_iff, p10, nf_cons fun e => h0 (kb.mp e)]
    · have hs : (valV kvs (.inr z)).isSome = true := by simpa using hb1
      obtain ⟨w1, hw1⟩ := Option.isSome_iff_exists.mp hs
      obtain ⟨l, es, rfl, _, hl, hes⟩ := hkn z w1 hw1
      exact rest _ _ ⟨_, _, _, kvs, l, es, rfl, kp_ex e1, e1 _ _ hd, kn_kp hd (kp_ex e1) hkn, hkt, hT.ext e1, hw1, e1 _ _ hl, hes⟩
end
end K24

set_option maxHeartbeats 4000000
set_option autoImplicit false
/-! the parted texts. -/
namespace K24
open PySem PySem.Spec PyProof.Rows L2 AsSort AsKit AsMax AsMin AsSortS
open Evl (Ex Ev EvT EvA)
open LamX (ExtN TabB)
open NdefX (TabsN NTab NScope nscope_by NF startF)
theorem es_len {y : Str} {ms : List (Str × Str)} (hm : Men y ms) {z : Str} {es : List Str} (h : EsOk ms z es) : decide ((1 : Int) < (es.length : Int)) = two ms z := by
  obtain ⟨h1, h2⟩ := h
  have hz : EM ms z ∈ es := (h2 _).mpr (nf_EM hm _ z (Nat.lt_succ_self _))
  unfold two
  rw [decide_eq_decide]
  constructor
  · intro hl u
    match es, h1, h2, hl with
    | x1 :: x2 :: r, h1, h2, _ =>
      have a := u _ _ ((h2 x1).mp (List.mem_cons_self ..)) ((h2 x2).mp (List.mem_cons_of_mem _ (List.mem_cons_self ..)))
      have := (List.nodup_cons.mp h1).1
      rw [cv_inj a] at this
      exact this (List.mem_cons_self ..)
    | [x1], _, _, hl => exact absurd hl (by simp)
    | [], _, _, hl => exact absurd hl (by simp)
  · intro hu
    refine Classical.byContradiction fun hl => hu fun u v hu1 hv => ?_
    match es, hz, h2, hl with
    | [e], _, h2, _ =>
      have ofw : ∀ w : Wd, ∃ s : Str, cv s = w := fun w => ⟨⟨w.toArray⟩, rfl⟩
      obtain ⟨su, rfl⟩ := ofw u
      obtain ⟨sv, rfl⟩ := ofw v
      rw [List.mem_singleton.mp ((h2 su).mpr hu1), List.mem_singleton.mp ((h2 sv).mpr hv)]
    | [], hz, _, _ => exact absurd hz List.not_mem_nil
    | x1 :: x2 :: r, _, _, hl =>
      exact absurd (by rw [List.length_cons, List.length_cons]; omega) hl
section
variable {K : PySem.W.Frag}
theorem tabs_lst2 {Ts : List NTab} {H : Hp} {o : HO} {d : Addr} {xs : List V} (h : H d = some (.lst xs)) (t : TabsN Ts H) : TabsN Ts (upd H d o) := fun p hp => by
  obtain ⟨ps, t1, t2, t3⟩ := t p hp
  refine ⟨ps, (upd_ne (fun z => by rw [z, h] at t1; cases t1)).trans t1, t2, fun pos cv hc => ?_⟩
  obtain ⟨c, e1, e2⟩ := t3 pos cv hc
  refine ⟨c, e1, (upd_ne (fun z => ?_)).trans e2⟩
  rw [z, h] at e2
  have e3 := Option.some.inj e2
  unfold LamX.CodeO at e3
  cases e3
abbrev tParted (K : PySem.W.Frag) (Ts : List NTab) (tx : TA) : TE := tLc (iList (K := K) (tCall (spTexts K) [] C8.E0 tx)) (gName 5) (tTest (tOp (rI0 fun i j => .bl (decide (j < i))) (tCB (rLenQ K) (tCons (tCall (spEnds K Ts 8) [] C8.E0 (tCons (tVar 3) (tCons (tVar 5) (tCons (tVar 4) tNil)))) tNil)) (tC (.int 1)))) (tVar 5) [5]
theorem parted_ev {Ts : List NTab} {H : Hp} {v0 v1 v3 : V} {y : Str} {ms : List (Str × Str)} {d : Addr} {kvs : List (Key × V)} {M : Nat} {l D : Addr} {Qd : Hp → Prop}
    (hl : H l = some (.lst ((allT y M).map V.str))) (h3 : Dp K H v3 (.tuple (ms.map kD))) (hm : Men y ms) (hy : y.length ≤ 3) (hml : ms.length ≤ 12) (hM : M ≤ 6) (hd : H d = some (.dK kvs)) (hkn : ∀ D, KnOk ms D H kvs) (hkt : KeysT y kvs) (hT : TabsN Ts H)
    (hD : H D = none) (q : ∀ G kvs', Kp d H G → G d = some (.dK kvs') → KnOk ms D G kvs' → KeysT y kvs' → TabsN Ts G → G D = some (.lst (((allT y M).filter (two ms)).map V.str)) → Qd G) :
    ∃ W : Nat → Nat → Hp → Prop, (∃ m, W 0 m (upd H D (.lst []))) ∧ ∀ i m H', W i m H' →
      ((Itl K l).stop i H' ∧ Qd H') ∨ ((Itl K l).go i H' ∧ ∃ Nx : Hp → Prop, (∀ H'', Nx H'' → ∃ m', m' < m ∧ W (i + 1) m' H'') ∧ ∀ x H1, (Itl K l).yld i H' x H1 → gName 5 x (wipe [some v0, some v1, some (.str y), some v3, some (.ref d), none, none, none, none] [5]) H1 fun σ2 H2 => wipe σ2 [5] = wipe [some v0, some v1, some (.str y), some v3, some (.ref d), none, none, none, none] [5] ∧ (tTest (tOp (rI0 fun i j => .bl (decide (j < i))) (tCB (rLenQ K) (tCons (tCall (spEnds K Ts 8) [] C8.E0 (tCons (tVar 3) (tCons (tVar 5) (tCons (tVar 4) tNil)))) tNil)) (tC (.int 1)))) σ2 H2 fun b H3 =>
        if b = true then (tVar 5) σ2 H3 fun y' H4 => ∃ acc, H4 D = some (.lst acc) ∧ acc.length < sizeLine ∧ Nx (upd H4 D (.lst (acc ++ [y']))) else Nx H3) := by
  have nDd : D ≠ d := fun e => by rw [e, hd] at hD; cases hD
  have hn : ∀ b o, H b = some o → b ≠ D := fun b o h e => by rw [e, hD] at h; cases h
  have al6 := all_len6 (y := y) (by omega) M hM
  refine lc_list (fun i G => ∃ kvs', Kp d H G ∧ G d = some (.dK kvs') ∧ KnOk ms D G kvs' ∧ KeysT y kvs' ∧ TabsN Ts G ∧ G D = some (.lst ((((allT y M).take i).filter (two ms)).map V.str))) ⟨kvs, kp_ex (Ex.new hD), Ex.new hD _ _ hd, kn_kp hd (kp_ex (Ex.new hD)) (hkn D), hkt, hT.ext (Ex.new hD), upd_same⟩ (xs := (allT y M).map V.str) (fun i G _ p => ?_) (fun i x G hi p => ?_) fun G p => ?_
  · obtain ⟨kvs', p1, _⟩ := p
    exact Evl.sq_of (p1 _ _ (fun e => by rw [e, hd] at hl; cases hl) hl (fun _ e => nomatch e))
  · obtain ⟨kvs', p1, p2, p3, p4, p5, p6⟩ := p
    have hil : i < (allT y M).length := by have := (List.getElem?_eq_some_iff.mp hi).1; rw [List.length_map] at this; exact this
    obtain ⟨t, ht⟩ : ∃ t, (allT y M)[i]? = some t := ⟨_, List.getElem?_eq_getElem hil⟩
    rw [List.getElem?_map, ht] at hi
    have hx : V.str t = x := Option.some.inj hi
    subst hx
    have htm := all_mem M t (List.mem_of_getElem? ht)
    refine ⟨rfl, ?_⟩
    refine ⟨v3, rfl, .str t, rfl, .ref d, rfl, v3, y, ms, t, d, kvs', D, _, rfl, dp_kp hd p1 h3, hm, hy, hml, htm.2, by omega, by omega, p2, p3, p6, p4, p5, fun l1 es G2 kvs2 kk hd2 kn2 kt2 tt2 hl1 hes => ?_⟩
    refine ⟨l1, es.map V.str, rfl, .inl (Evl.sq_of hl1), _, _, rfl, rfl, _, rfl, ?_⟩
    rw [List.length_map, es_len hm hes]
    have hD2 := kk _ _ nDd p6 (fun _ e => nomatch e)
    have tk : ((allT y M).take (i + 1)).filter (two ms) = ((allT y M).take i).filter (two ms) ++ if two ms t = true then [t] else [] := by
      rw [List.take_add_one, ht, List.filter_append]
      congr 1
      cases h : two ms t <;> simp [h]
    by_cases h2 : two ms t = true
    · show (if two ms t = true then _ else _)
      rw [if_pos h2]
      rw [if_pos h2] at tk
      refine ⟨_, rfl, _, hD2, ?_, ?_⟩
      · rw [List.length_map]
        refine Evl.sz_lt ?_
        have a1 := List.length_filter_le (two ms) ((allT y M).take i)
        have a2 := List.length_take_le' i (allT y M)
        omega
      · refine ⟨kvs2, fun b o nb hb nt => (upd_ne (hn b o hb)).trans ((p1.trans kk) b o nb hb nt), (upd_ne nDd.symm).trans hd2, fun s w hw => ?_, kt2, ?_, by rw [upd_same, tk, List.map_append]; rfl⟩
        · obtain ⟨l, es, k1, k2, k3, k4⟩ := kn2 s w hw
          exact ⟨l, es, k1, k2, (upd_ne k2).trans k3, k4⟩
        · exact tabs_lst2 hD2 tt2
    · show (if two ms t = true then _ else _)
      rw [if_neg h2]
      rw [if_neg h2, List.append_nil] at tk
      exact ⟨kvs2, p1.trans kk, hd2, kn2, kt2, tt2, by rw [tk]; exact hD2⟩
  · obtain ⟨kvs', p1, p2, p3, p4, p5, p6⟩ := p
    rw [List.length_map, List.take_length] at p6
    exact q G kvs' p1 p2 p3 p4 p5 p6
end
end K24

set_option maxHeartbeats 4000000
set_option autoImplicit false
/-! the law. -/
namespace K24
open PySem PySem.Spec PyProof.Rows L2 AsSort AsKit AsMax AsMin AsSortS
open Evl (Ex Ev EvT EvA)
open LamX (ExtN TabB)
open NdefX (TabsN NTab NScope nscope_by NF startF)
section
variable {P : Program} {w : World} {K : PySem.W.Frag} {mg : Str → Option Value} {base : Heap}
abbrev nLaw : List Str := ["script", "row", "letters", "mender", "known", "text", "parted", "due", "ends"]
theorem sc_law : FnScope nLaw ["script"] (defScope sLaw) := ⟨rfl, rfl, rfl, by decide +kernel, rfl, by decide +kernel, by decide +kernel⟩
theorem tabs_bt {Ts : List NTab} {S : Addr × List Int} {H H' : Hp} {r : Addr} (h : Row K S H r) (b : Bt r H H') (t : TabsN Ts H) : TabsN Ts H' := fun p hp => by
  obtain ⟨a, x, y, h1, _⟩ := h
  obtain ⟨ps, t1, t2, t3⟩ := t p hp
  refine ⟨ps, b _ _ (fun z => by rw [z, h1] at t1; cases t1) t1, t2, fun pos cv hc => ?_⟩
  obtain ⟨c, e1, e2⟩ := t3 pos cv hc
  refine ⟨c, e1, b _ _ (fun z => ?_) e2⟩
  rw [z, h1] at e2
  have e3 := Option.some.inj e2
  unfold LamX.CodeO at e3
  cases e3
theorem sqs_of {H : Hp} {a p : Addr} {o : HO} {xs : List V} (h : SqL K H a xs) (np : H p = none) : SqS K (upd H p o) p a xs := fun H' b => by
  have go : ∀ u, H a = some u → H' a = some u := fun u e => b a u (fun z => by rw [z, np] at e; cases e) ((upd_ne fun z => by rw [z, np] at e; cases e).trans e)
  rcases h with (h | ⟨o, h⟩) | h
  · exact .inl (.inl (go _ h))
  · exact .inl (.inr ⟨o, go _ h⟩)
  · exact .inr h
theorem row_kp {S : Addr × List Int} {H H' : Hp} {r d : Addr} {kvs : List (Key × V)} (h : Row K S H r) (hd : H d = some (.dK kvs)) (e : Kp d H H') : Row K S H' r := by
  obtain ⟨a, b, c, h1, h2, h3, h4⟩ := h
  refine ⟨a, b, c, e _ _ (fun z => by rw [z, hd] at h1; cases h1) h1 (fun _ z => nomatch z), h2, fun H2 b2 => ?_, h4⟩
  have go : ∀ Hm : Hp, Hm = (fun x => if (H x).isSome = true ∧ x ≠ r then H x else H2 x) → ∀ o, Hm S.1 = some o → (∀ kvs, o ≠ .dK kvs) → (∀ ps, o ≠ .tbl ps) → H2 S.1 = some o := fun Hm eh o ho n1 n2 => by
    rw [eh] at ho
    have ho : (if (H S.1).isSome = true ∧ S.1 ≠ r then H S.1 else H2 S.1) = some o := ho
    by_cases hc : (H S.1).isSome = true ∧ S.1 ≠ r
    · rw [if_pos hc] at ho
      exact b2 _ _ hc.2 (e _ _ (fun z => by rw [z, hd] at ho; cases ho; exact n1 _ rfl) ho n2)
    · rw [if_neg hc] at ho
      exact ho
  have hm := h3 (fun x => if (H x).isSome = true ∧ x ≠ r then H x else H2 x) fun x o nx hx => by
    show (if (H x).isSome = true ∧ x ≠ r then H x else H2 x) = _
    rw [if_pos ⟨by rw [hx]; rfl, nx⟩]
    exact hx
  rcases hm with (hm | ⟨o, hm⟩) | hm
  · exact .inl (.inl (go _ rfl _ hm (fun _ z => nomatch z) (fun _ z => nomatch z)))
  · exact .inl (.inr ⟨o, go _ rfl _ hm (fun _ z => nomatch z) (fun _ z => nomatch z)⟩)
  · exact .inr hm
theorem shaped_strs {ss : List Str} (h : ∀ s ∈ ss, PyData.strOk s = true) : SeqAt.shaped (.list (ss.map PyData.str)) = true := by
  have z : PyData.canLayAll0 (ss.map PyData.str) = true ∧ PyData.depthAll (ss.map PyData.str) = 0 := by
    induction ss with
    | nil => simp [PyData.canLayAll0, PyData.depthAll]
    | cons s ss ih =>
      obtain ⟨i1, i2⟩ := ih fun x hx => h x (List.mem_cons_of_mem _ hx)
      simp [PyData.canLayAll0, PyData.depthAll, i1, i2, PyData.canLay0, PyData.depth, h s (List.mem_cons_self ..)]
  unfold SeqAt.shaped
  simp [PyData.canLay0, PyData.depth, z.1, z.2]
theorem eqv_listnil (L : List PyData) : PyData.eqv (.list L) (.list []) = decide (L = []) := by
  have e : PyData.eqv (.list L) (.list []) = PyData.eqvAll L [] := by rw [PyData.eqv]
  rw [e]
  cases L with
  | nil => rw [PyData.eqvAll]; rfl
  | cons x xs => rw [PyData.eqvAll]; rfl
theorem four_ok (x : V) (h : x ∈ [V.str "a", V.str "ab", V.str "ab", V.str "abc"]) : ∃ y, x = .str y ∧ isLetS y = true ∧ PyData.strOk y = true ∧ 0 < y.length ∧ y.length ≤ 3 := by
  simp only [List.mem_cons, List.not_mem_nil, or_false] at h
  rcases h with rfl | rfl | rfl | rfl
  · exact ⟨_, rfl, by decide +kernel, by decide +kernel, by decide +kernel, by decide +kernel⟩
  · exact ⟨_, rfl, by decide +kernel, by decide +kernel, by decide +kernel, by decide +kernel⟩
  · exact ⟨_, rfl, by decide +kernel, by decide +kernel, by decide +kernel, by decide +kernel⟩
  · exact ⟨_, rfl, by decide +kernel, by decide +kernel, by decide +kernel, by decide +kernel⟩
abbrev spLaw (K : PySem.W.Frag) (Ts : List NTab) : Sp := fun vs H Q _ => ∃ (a : Addr) (ns : List Int), vs = [.ref a] ∧ SqL K H a (ns.map V.int) ∧ TabsN Ts H ∧ ∀ H', Q (.bl true) H'
theorem ok_law {Ts : List NTab} {f0 : Addr} {fd0 : FuncData} (F0 : FunD K "law" "law" (defArgs sLaw) (defBody sLaw) (defScope sLaw) [] [] f0 fd0) (hb : Bl mg) (CP : Cl P w K mg base 2 "_law_pick" (spPick K) []) (C2 : Cl P w K mg base 4 "_law_mender" (spMender K) []) (C3 : Cl P w K mg base 3 "_law_text" (spText K) []) (C4 : ∀ n, Cl P w K mg base (n + 1) "_law_alike" (spAlike K n) []) (CT : Cl P w K mg base 1 "_law_texts" (spTexts K) []) (CE : Cl P w K mg base 14 "_law_ends" (spEnds K Ts 8) []) (CM : Cl P w K mg base 8 "mended" (spMend K Ts endD) []) (CO : Cl P w K mg base 8 "overlap" (spOv K optS) []) (CW : Cl P w K mg base 8 "is_one_way" (spOv K optB) []) : FnOk P w K mg base C8.CX0 15 f0 fd0 ["script"] (spLaw K Ts) := by
  refine fnok_of F0 sc_law (fun vs H Q E ⟨a, ns, h, _⟩ => by rw [h]; rfl) fun f cdv A outer s H vs Q E hr h => ?_
  obtain ⟨a, ns, rfl, hS, hT, q⟩ := h
  have hu : (A.deeper (envOfC "law" (defScope sLaw) s.heap.objs.size f cdv)).units + 65 < cLine := by have := hr.un; omega
  refine ⟨_, pss_cons (ps_set (i := 1) sc_law.nd rfl (by first | exact .inl rfl | exact .inr rfl) (pe_lst (pa_cons (pv 0) (pa_cons pe_int (pa_cons pe_int (pa_cons pe_int pa_nil))))))
    (pss_cons (ps_set (i := 2) sc_law.nd rfl (by first | exact .inl rfl | exact .inr rfl) (C8.pe_c CP hr (by decide) (by rfl) (pa_cons (pv 1) (pa_cons (pe_lst (pa_cons pe_str (pa_cons pe_str (pa_cons pe_str (pa_cons pe_str pa_nil))))) pa_nil))))
    (pss_cons (ps_asg (pe_tup (pa_cons (C8.pe_c C2 hr (by decide) (by rfl) (pa_cons (pv 1) (pa_cons (pv 2) pa_nil))) (pa_cons pe_dnewK pa_nil))) (pg_tup rfl (pgs_cons (pg_name (i := 3) sc_law.nd rfl (by first | exact .inl rfl | exact .inr rfl)) (pgs_cons (pg_name (i := 4) sc_law.nd rfl (by first | exact .inl rfl | exact .inr rfl)) pgs_nil))))
    (pss_cons (ps_setLcn (i := 6) (tt := tTest (tOp (rI0 fun i j => .bl (decide (j < i))) (tCB (rLenQ K) (tCons (tCall (spEnds K Ts 8) [] C8.E0 (tCons (tVar 3) (tCons (tVar 5) (tCons (tVar 4) tNil)))) tNil)) (tC (.int 1)))) 5 sc_law.nd (pi_list (C8.pe_c CT hr (by decide) (by rfl) (pa_cons (pv 2) (pa_cons (pe_ifExp (pt_cmpR op_lt (pe_lenS hb (pv 2)) pe_int (nomark _)) pe_int pe_int) pa_nil))))
        (fun _ _ _ _ _ => by refine pts_one ?_; refine pt_cmpR op_gt ?_ pe_int (nomark _); refine pe_lenQ hb ?_; exact C8.pe_c CE hr (by decide) (by rfl) (pa_cons (pv 3) (pa_cons (pv 5) (pa_cons (pv 4) pa_nil)))) (fun _ _ _ _ _ => pv 5) (fun _ _ _ _ _ => pg_name sc_law.nd rfl (by first | exact .inl rfl | exact .inr rfl)) (blkOk_by (N := nLaw) (sc := defScope sLaw) (own := [("text", 5)]) (by decide +kernel)) rfl rfl rfl (sw_true rfl rfl rfl (by decide +kernel)))
    (pss_cons (ps_set (i := 7) sc_law.nd rfl (by first | exact .inl rfl | exact .inr rfl) (pe_ifExp (pt_cmpR (op_neD (Nat.lt_of_succ_lt hu)) (pv 6) (pe_lst pa_nil) rfl) (pe_ix (r := rIxL K) ix_list (pv 6) pe_int (fun _ _ => rfl)) pe_non))
    (pss_cons (ps_if (pt_not (pt_val (C8.pe_c (C4 3) hr (by decide) (by rfl) (pa_cons (pe_lst (pa_cons (C8.pe_c CO hr (by decide) (by rfl) (pa_cons (pv 2) (pa_cons (pv 3) pa_nil))) (pa_cons (C8.pe_c CW hr (by decide) (by rfl) (pa_cons (pv 2) (pa_cons (pv 3) pa_nil))) pa_nil))) (pa_cons (pe_lst (pa_cons (pv 7) (pa_cons (pe_cmp (pc_isN (pv 7))) pa_nil))) pa_nil))))) (pss_one (ps_ret pe_bl)) pss_nil)
    (pss_cons (ps_set (i := 5) sc_law.nd rfl (by first | exact .inl rfl | exact .inr rfl) (C8.pe_c C3 hr (by decide) (by rfl) (pa_cons (pv 1) (pa_cons (pv 2) (pa_cons pe_int pa_nil)))))
    (pss_cons (ps_set (i := 8) sc_law.nd rfl (by first | exact .inl rfl | exact .inr rfl) (C8.pe_c CE hr (by decide) (by rfl) (pa_cons (pv 3) (pa_cons (pv 5) (pa_cons (pv 4) pa_nil)))))
    (pss_one (ps_ret (pe_and (pe_cmpR (op_inD hu) (C8.pe_c CM hr (by decide) (by rfl) (pa_cons (pv 2) (pa_cons (pv 3) (pa_cons (pv 5) pa_nil)))) (pv 8) rfl) (pe_one (pe_or (pe_cmp (pc_notN (pv 7))) (pe_one (pe_cmpR op_eq (pe_lenQ hb (pv 8)) pe_int (nomark _))))))))))))))), ?_⟩
  refine ⟨.ref a, rfl, by show 4 ≤ sizeLine; decide, fun p np => ?_⟩
  have hR : Row K (a, ns) (upd H p (.lst [.ref a, .int 0, .int 7424, .int 0])) p := ⟨0, 7424, 0, upd_same, trivial, fun H' b => sqs_of hS np H' b, by decide, by decide, by decide⟩
  have hT1 : TabsN Ts (upd H p (.lst [.ref a, .int 0, .int 7424, .int 0])) := hT.ext (Ex.new np)
  refine ⟨.ref p, rfl, by show 4 ≤ sizeLine; decide, fun l nl => ?_⟩
  have nL := row_new (o := .lst [.str "a", .str "ab", .str "ab", .str "abc"]) hR nl
  refine ⟨p, (a, ns), l, _, rfl, nL.2.1, nL.1, Evl.sq_of upd_same, by simp, by show 4 < 1000000; decide, fun x H1 hx b1 R1 => ?_⟩
  obtain ⟨y, rfl, y1, y2, y3, y4⟩ := four_ok x hx
  have hT2 := tabs_bt nL.2.1 b1 (hT1.ext (Ex.new nl))
  refine ⟨.ref p, rfl, .str y, rfl, p, (a, ns), y, rfl, R1, y2, y3, by omega, fun vm ms H2 hm2 mn ml mne mgd b2 R2 => ?_⟩
  have hT3 := tabs_bt R1 b2 hT2
  refine fun d nd => ⟨by show 2 ≤ sizeLine; decide, fun q3 nq => ⟨q3, _, rfl, Evl.st_of upd_same, rfl, _, _, rfl, _, _, rfl, rfl, ?_⟩⟩
  have okm : OkM y ms := ⟨y2, by omega, y1, by omega, mn, mgd⟩
  dsimp only [gName]
  obtain ⟨G3, eG3⟩ : ∃ G3, G3 = upd (upd H2 d (.dK [])) q3 (.tup [vm, .ref d]) := ⟨_, rfl⟩
  have x3 : Ex H2 G3 := by rw [eG3]; exact (Ex.new nd).trans (Ex.new nq)
  have hd3 : G3 d = some (.dK []) := by rw [eG3]; exact Ex.new nq _ _ upd_same
  rw [← eG3]
  have R3 := R2.ex x3
  have hm3 := dp_ex x3 hm2
  have hT4 := hT3.ext x3
  have y5 : (y.length : Int) ≤ 3 := by omega
  have sol : ∀ z : Str, allIn y z = true → PyData.strOk z = true := fun z hz => strOk_in y2 hz
  refine q_mid (fun σ1 G => ∃ (D : Addr) (M : Nat) (kvs' : List (Key × V)), σ1 = [some (.ref a), some (.ref p), some (.str y), some vm, some (.ref d), none, some (.ref D), none, none] ∧ Kp d G3 G ∧ G d = some (.dK kvs') ∧ KnOk ms D G kvs' ∧ KeysT y kvs' ∧ TabsN Ts G ∧ G D = some (.lst (((allT y M).filter (two ms)).map V.str)) ∧ 5 ≤ M ∧ M ≤ 6) (fun σ1 G hG => ?_) fun rest => ?_
  · obtain ⟨D, M, kvs', rfl, g1, g2, g3, g4, g5, g6, g7, g8⟩ := hG
    have hmG := dp_kp hd3 g1 hm3
    have RG := row_kp R3 hd3 g1
    have himm : imm (.tuple (ms.map kD)) = true := immAll_of fun d hd => by
      obtain ⟨q, _, rfl⟩ := List.mem_map.mp hd
      rfl
    obtain ⟨ff, eff⟩ : ∃ ff, ff = (allT y M).find? (two ms) := ⟨_, rfl⟩
    obtain ⟨fl, efl⟩ : ∃ fl, fl = (allT y M).filter (two ms) := ⟨_, rfl⟩
    have hfl : fl.head? = ff := by rw [efl, eff, List.head?_filter]
    have hso : ∀ t ∈ fl, PyData.strOk t = true := fun t ht => by
      rw [efl] at ht
      exact sol t (all_mem M t (List.mem_filter.mp ht).1).2
    obtain ⟨L1, L2, L3, _⟩ := maxL_ok mgd mne
    have efr : (allT y (2 * maxL ms - 1)).find? (amb ms) = ff := by
      rw [amb_first mgd, eff]
      exact (two_far mgd L1 (by omega)).symm
    rw [← efl] at g6
    have tN := t_ofD (d_neD (K := K) (σ := [some (.ref a), some (.ref p), some (.str y), some vm, some (.ref d), none, some (.ref D), none, none]) (H := G) (d_var (i := 6) ⟨_, rfl, .lst (Evl.sq_of g6) (dp_strs _)⟩) (d_lst ds_nil (Nat.zero_le _)) (shaped_strs hso) (by decide +kernel))
    rw [eqv_listnil] at tN
    refine q_mid (fun σ1 G6 => ∃ due, σ1 = [some (.ref a), some (.ref p), some (.str y), some vm, some (.ref d), none, some (.ref D), some due, none] ∧ Ex G G6 ∧ Dp K G6 due (optS ff)) (fun σ1 G6 hG => ?_) fun rest => ?_
    · obtain ⟨due, rfl, e6, hdue⟩ := hG
      have hm6 := dp_ex e6 hmG
      have dOv : ∀ g : Option Str → PyData, EvD K (tCall (spOv K g) [] C8.E0 (tCons (tVar 2) (tCons (tVar 3) tNil))) [some (.ref a), some (.ref p), some (.str y), some vm, some (.ref d), none, some (.ref D), some due, none] G6 (g ff) := fun g H1 x Q q => ⟨.str y, rfl, vm, rfl, vm, y, ms, rfl, dp_ex x hm6, okm, by omega, mne, fun u H2 e2 hu => q u H2 e2 (by rw [efr] at hu; exact hu)⟩
      have dIs : EvD K (tIsN (tVar 7)) [some (.ref a), some (.ref p), some (.str y), some vm, some (.ref d), none, some (.ref D), some due, none] G6 (optB ff) := fun H1 x Q q => by
        refine ⟨due, rfl, q _ H1 (Ex.refl _) ?_⟩
        cases ff with
        | none => cases hdue; exact .bl _
        | some s => cases hdue; exact .bl _
      have okd : okD 3 (.list [optS ff, optB ff]) := by
        refine ⟨by show 2 ≤ 40000; decide, fun d hd => ?_⟩
        rcases List.mem_cons.mp hd with rfl | hd
        · cases ff <;> trivial
        · rw [List.mem_singleton.mp hd]
          trivial
      have tA := t_ofB (K := K) (d_call (pre := fun ds => ∃ d, ds = [d, d] ∧ okD 3 d) (g := fun _ => PyData.bool true) (E := C8.E0) (ds_cons (d_lst (ds_cons (dOv optS) (ds_cons (dOv optB) ds_nil)) (by show 2 ≤ 100000; decide)) (ds_cons (d_lst (ds_cons (d_var (i := 7) ⟨_, rfl, hdue⟩) (ds_cons dIs ds_nil)) (by show 2 ≤ 100000; decide)) ds_nil)) ⟨_, rfl, okd⟩)
      refine Evl.s_when (Evl.et_not tA) (fun hb1 => absurd hb1 (by decide)) fun _ G7 e7 => ?_
      have e67 := e6.trans e7
      have hd7 := e67 _ _ g2
      have R7 := RG.ex e67
      refine ⟨.ref p, rfl, .str y, rfl, p, (a, ns), y, 7, rfl, R7, y3, by omega, by decide, fun z H8 hz hzin b8 R8 => ?_⟩
      have pl : ∃ u, G7 p = some (.lst (.ref a :: u)) := let ⟨_, _, _, h, _⟩ := R7; ⟨_, h⟩
      obtain ⟨up, hp7⟩ := pl
      have np : ∀ (l : Addr) (es : List Str), G7 l = some (.lst (es.map V.str)) → l ≠ p := fun l es h e => by
        rw [e, hp7] at h
        cases es <;> simp at h
      have ndp : d ≠ p := fun e => by rw [e, hp7] at hd7; cases hd7
      have hd8 := b8 _ _ ndp hd7
      have kn8 : KnOk ms D H8 kvs' := fun s w hw => by
        obtain ⟨l, es, k1, k2, k3, k4⟩ := g3 s w hw
        have := e67 _ _ k3
        exact ⟨l, es, k1, k2, b8 _ _ (np l es this) this, k4⟩
      have hD7 := e67 _ _ g6
      have hD8 := b8 _ _ (np D fl hD7) hD7
      have T8 := tabs_bt R7 b8 (g5.ext e67)
      have hm8 : Dp K H8 vm (.tuple (ms.map kD)) := dp_tu (tu_bt R7 b8) himm (dp_ex e67 hmG)
      have hdue8 : Dp K H8 due (optS ff) := by
        cases ff with
        | none => cases hdue; exact .non
        | some s => cases hdue; exact .str s
      refine ⟨vm, rfl, .str z, rfl, .ref d, rfl, vm, y, ms, z, d, kvs', D, _, rfl, hm8, mgd, y4, by omega, hzin, hz, by omega, hd8, kn8, hD8, g4, T8, fun l es H9 kvs9 kk hd9 kn9 kt9 tt9 hl hes => ?_⟩
      have hm9 := dp_kp hd8 kk hm8
      refine ⟨.str y, rfl, vm, rfl, .str z, rfl, vm, y, ms, z, rfl, hm9, okm, by omega, hzin, tt9, fun u H10 e10 t10 hu => ?_⟩
      cases hu
      have hl10 := e10 _ _ hl (fun _ e => nomatch e)
      have hin : (mend ms z).2 ∈ es := (hes.2 _).mpr (nf_EM mgd _ z (Nat.lt_succ_self _))
      have eso : ∀ e ∈ es, PyData.strOk e = true := fun e he => sol e (List.all_eq_true.mpr fun q hq => decide_eq_true ((star_over mgd ((hes.2 e).mp he).1 (fun q hq => of_decide_eq_true (List.all_eq_true.mp hzin q hq))).1 q hq))
      have hsh : SeqAt.shaped (.str (mend ms z).2) = true := by
        have := eso _ hin
        unfold SeqAt.shaped
        simp [PyData.canLay0, PyData.depth, this]
      have hany : ((es.map PyData.str).any fun w => PyData.eqv w (.str (mend ms z).2)) = true := List.any_eq_true.mpr ⟨_, List.mem_map_of_mem hin, SeqAt.eqv_refl _ (SeqAt.canLay_of_shaped hsh)⟩
      refine ⟨.ref l, rfl, .str (mend ms z).2, es.map PyData.str, .str _, .lst (Evl.sq_of hl10) (dp_strs _), hsh, shaped_strs eso, _, rfl, ?_⟩
      rw [hany, if_pos rfl]
      have hdue10 : Dp K H10 due (optS ff) := by
        cases ff with
        | none => cases hdue; exact .non
        | some s => cases hdue; exact .str s
      have dNo : EvD K (tNotN (tVar 7)) [some (.ref a), some (.ref p), some (.str y), some vm, some (.ref d), some (.str z), some (.ref D), some due, some (.ref l)] H10 (.bool ff.isSome) := fun H1 x Q q => by
        refine ⟨due, rfl, q _ H1 (Ex.refl _) ?_⟩
        cases ff with
        | none => cases hdue; exact .bl _
        | some s => cases hdue; exact .bl _
      have dE : EvD K (tOp rEq (tCB (rLenQ K) (tCons (tVar 8) tNil)) (tC (.int 1))) [some (.ref a), some (.ref p), some (.str y), some vm, some (.ref d), some (.str z), some (.ref D), some due, some (.ref l)] H10 (.bool (decide (((es.map PyData.str).length : Int) = 1))) := d_eqI (d_lenL (d_var (i := 8) ⟨_, rfl, .lst (Evl.sq_of hl10) (dp_strs _)⟩)) (d_int (i := 1))
      refine (d_or dNo fun _ => dE) H10 (Ex.refl _) _ fun v H11 _ hv => ?_
      have ht : (ff.isSome || decide (((es.map PyData.str).length : Int) = 1)) = true := by
        cases hff : ff with
        | some s => rfl
        | none =>
          have hn := no_two mgd L1 (by rw [← two_far mgd L1 (M := M) (by omega), ← eff, hff]) z hzin
          have h1 := es_len mgd hes
          have h2 : two ms z = false := by unfold two; simp [hn]
          rw [h2] at h1
          have h3 := of_decide_eq_false h1
          have h4 := List.length_pos_of_mem hin
          rw [List.length_map]
          show decide ((es.length : Int) = 1) = true
          exact decide_eq_true (by omega)
      rw [ht] at hv
      cases hv
      exact q _
    · refine tN G (Ex.refl _) _ fun G6 e6 => ?_
      match fl, hfl, g6 with
      | [], hfl, g6 =>
        rw [if_neg (by simp)]
        exact rest _ _ ⟨.non, rfl, e6, by rw [← hfl]; exact .non⟩
      | t :: r, hfl, g6 =>
        rw [if_pos (by simp)]
        refine d_ixL (K := K) (d := .str t) (d_var (i := 6) ⟨_, rfl, .lst (Evl.sq_of g6) (dp_strs _)⟩) (d_int (i := 0)) (at0 rfl) G6 e6 _ fun u G7 e7 hu => rest _ _ ⟨u, rfl, e6.trans e7, by rw [← hfl]; exact hu⟩
  · refine ⟨.str y, rfl, ?_⟩
    have tst := t_ofD (K := K) (σ := [some (.ref a), some (.ref p), some (.str y), some vm, some (.ref d), none, none, none, none]) (H := G3) (d_cmpI (g := fun i j => decide (i < j)) (d_lenS (x := y) (d_var (i := 2) ⟨_, rfl, .str y⟩) (by omega)) (d_int (i := 3)))
    refine tst G3 (Ex.refl _) _ fun G4 e4 => ?_
    have d4 := e4 _ _ hd3
    have kn0 : ∀ D G, KnOk ms D G [] := fun D G s w hw => nomatch hw
    have kt0 : KeysT y [] := ⟨[], ⟨rfl, List.nodup_nil⟩, fun _ h => nomatch h⟩
    by_cases h : (y.length : Int) < 3
    · rw [if_pos (decide_eq_true h)]
      exact ⟨y, 6, rfl, by omega, by decide, fun l G5 e5 hl => ⟨l, rfl, ⟨_, Evl.sq_of hl⟩, fun D hD => parted_ev hl (dp_ex (e4.trans e5) hm3) mgd y4 (by omega) (by decide) (e5 _ _ d4) (fun D => kn0 D _) kt0 (hT4.ext (e4.trans e5)) hD fun G kvs' r1 r2 r3 r4 r5 r6 => rest _ _ ⟨D, 6, kvs', rfl, (kp_ex (e4.trans e5)).trans r1, r2, r3, r4, r5, r6, by decide, by decide⟩⟩⟩
    · rw [if_neg (by rw [decide_eq_false h]; decide)]
      exact ⟨y, 5, rfl, by omega, by decide, fun l G5 e5 hl => ⟨l, rfl, ⟨_, Evl.sq_of hl⟩, fun D hD => parted_ev hl (dp_ex (e4.trans e5) hm3) mgd y4 (by omega) (by decide) (e5 _ _ d4) (fun D => kn0 D _) kt0 (hT4.ext (e4.trans e5)) hD fun G kvs' r1 r2 r3 r4 r5 r6 => rest _ _ ⟨D, 5, kvs', rfl, (kp_ex (e4.trans e5)).trans r1, r2, r3, r4, r5, r6, by decide, by decide⟩⟩⟩
end
end K24

set_option maxHeartbeats 0
set_option autoImplicit false
namespace K24
open PySem PySem.Spec PyProof.Rows L2 AsSort AsKit AsMax AsMin AsSortS
open Evl (Ex Ev EvT EvA)
open LamX (ExtN TabB)
open NdefX (TabsN TabN NTab NScope nscope_by NF startF)
/-! the head: what the top leaves -/
def mkD (x : Str) (st : Stmt) : He.DefD := ⟨(x, none), x, x, defArgs st, defBody st, defScope st, [], []⟩
def fn0 : List He.DefD := [mkD "is_letters" sIsLetters, mkD "is_text" sIsText, mkD "is_text_within" sIsTextWithin, mkD "is_kind" sIsKind, mkD "is_lot" sIsLot, mkD "check_letters" sCheckLetters, mkD "check_text" sCheckText, mkD "check_kinds" sCheckKinds, mkD "check_mender" sCheckMender, mkD "text_order" sTextOrder, mkD "texts_within" sTextsWithin, mkD "kind_order" sKindOrder, mkD "deeds_on" sDeedsOn, mkD "text_behind" sTextBehind, mkD "next_deed" sNextDeed, mkD "mending_of" sMendingOf, mkD "least_overlap" sLeast, mkD "check_letters_and_mender" sCheckLM, mkD "mended" sMended, mkD "is_one_way" sOneWay, mkD "overlap" sOverlap, mkD "_law_taken" sTaken, mkD "_law_pick" sPick, mkD "_law_alike" sAlike, mkD "_law_text" sText, mkD "_law_texts" sTexts, mkD "_law_deeds" sDeedsL, mkD "_law_behind" sBehind]
def fn1 : List He.DefD := [mkD "_law_mender" sMender, mkD "_law_ends" sEnds, mkD "law" sLaw]
def fn : List He.DefD := fn0 ++ fn1
def fa0 : List He.Fa := [.glo "is_letters", .glo "is_text", .glo "is_text_within", .glo "is_kind", .glo "is_lot", .glo "check_letters", .glo "check_text", .glo "check_kinds", .glo "check_mender", .glo "text_order", .glo "texts_within", .glo "kind_order", .glo "deeds_on", .glo "text_behind", .glo "next_deed", .glo "mending_of", .glo "least_overlap", .glo "check_letters_and_mender", .glo "mended", .glo "is_one_way", .glo "overlap", .glo "_law_taken", .glo "_law_pick", .glo "_law_alike", .glo "_law_text", .glo "_law_texts", .glo "_law_deeds", .glo "_law_behind"]
def fa1 : List He.Fa := [.glo "_law_mender", .glo "_law_ends", .glo "law"]
def faF : List He.Fa := [.free "isinstance", .free "int", .free "bool", .free "str", .free "tuple", .free "list", .free "dict", .free "len", .free "range", .free "all", .free "any", .free "set", .free "sorted", .free "max", .int "MOST_LETTERS" 4, .int "LONGEST_TEXT" 40, .int "LONGEST_LEFT" 3, .int "LONGEST_RIGHT" 1, .int "MOST_KINDS" 12]
def fa : List He.Fa := fa0 ++ fa1 ++ faF
def loose0 : List Str := ["ScribeError", "BadLetters", "BadText", "BadKinds", "BadMender", "MOST_LETTERS", "LONGEST_TEXT", "LONGEST_LEFT", "LONGEST_RIGHT", "MOST_KINDS", "is_letters", "is_text", "is_text_within", "is_kind", "is_lot", "check_letters", "check_text", "check_kinds", "check_mender", "text_order", "texts_within", "kind_order", "deeds_on", "text_behind", "next_deed", "mending_of", "least_overlap", "check_letters_and_mender"]
def loose1 : List Str := ["mended", "is_one_way", "overlap", "_law_taken", "_law_pick", "_law_alike", "_law_text", "_law_texts", "_law_deeds", "_law_behind", "_law_mender", "_law_ends"]
def loose : List Str := loose0 ++ loose1
abbrev Rw : PySem.W.OpenRow := PySem.W.OpenLaw.row PySem.Challenge.rw_anyscribe_k24_one_way_exactly
abbrev Pg : Program := PySem.Challenge.rw_anyscribe_k24_one_way_exactly.prog
abbrev tf : List He.Defn := [("next_deed", none), ("_law_deeds", none)]
def exK : PySem.W.Frag → Bool := fun K => decide ((He.cT K ("next_deed", none)).2 ≠ (He.cT K ("_law_deeds", none)).2)
abbrev hk : PySem.W.Hook := He.hookX 4 fa fn [] tf exK
def ob (s : PySem.W.SharedT) : He.AlX := He.obsX 4 fa fn [] tf exK (HandSHeadRun.getT s)
theorem ob_eq (s : PySem.W.SharedT) : ob s = hk.obs s.abs := He.obsX_eq (HandSHeadRun.getT_eq s)
theorem run (w : World) : HandSHeadRun.RunEq Rw (PySem.W.view Rw.prog [45]) hk ob 3000 loose w := by
  intro os
  kernel_rfl
end K24

set_option maxHeartbeats 0
set_option autoImplicit false
namespace K24
open PySem PySem.Spec PyProof.Rows L2 AsSort AsKit AsMax AsMin AsSortS
open Evl (Ex Ev EvT EvA)
open LamX (ExtN TabB)
open NdefX (TabsN TabN NTab NScope nscope_by NF startF)
section
variable {P : Program} {w : World} {K : PySem.W.Frag} {mg : Str → Option Value} {h : Heap}
theorem df_of (X : K.In h) (G : h.Ns mainGlobals mg) (c : He.SaysD fa fn K) (x : Str) (st : Stmt) (h1 : mkD x st ∈ fn) (h2 : He.Fa.glo x ∈ fa) : Df K mg x st := by
  obtain ⟨fd, F⟩ := c.defs h1
  exact ⟨_, fd, F, He.glo_ok X G (c.facts h2)⟩
theorem bl_of (X : K.In h) (G : h.Ns mainGlobals mg) (c : He.SaysD fa fn K) : Bl mg := fun x hx => by
  have h2 : ∀ x ∈ blts, He.Fa.free x ∈ fa := by
    intro x hx
    simp only [blts, List.mem_cons, List.not_mem_nil, or_false] at hx
    rcases hx with rfl | rfl | rfl | rfl | rfl | rfl | rfl | rfl | rfl | rfl | rfl | rfl | rfl
    · exact (List.mem_of_getElem? (i := 31) rfl)
    · exact (List.mem_of_getElem? (i := 32) rfl)
    · exact (List.mem_of_getElem? (i := 33) rfl)
    · exact (List.mem_of_getElem? (i := 34) rfl)
    · exact (List.mem_of_getElem? (i := 35) rfl)
    · exact (List.mem_of_getElem? (i := 36) rfl)
    · exact (List.mem_of_getElem? (i := 37) rfl)
    · exact (List.mem_of_getElem? (i := 38) rfl)
    · exact (List.mem_of_getElem? (i := 39) rfl)
    · exact (List.mem_of_getElem? (i := 40) rfl)
    · exact (List.mem_of_getElem? (i := 41) rfl)
    · exact (List.mem_of_getElem? (i := 42) rfl)
    · exact (List.mem_of_getElem? (i := 43) rfl)
  exact He.free_ok X G (c.facts (h2 x hx))
theorem gn_of (X : K.In h) (G : h.Ns mainGlobals mg) (c : He.SaysD fa fn K) (x : Str) (n : Int) (h2 : He.Fa.int x n ∈ fa) : Gn mg x n := by
  obtain ⟨t, e⟩ := He.int_ok X G (c.facts h2)
  exact ⟨_, e, ⟨t, rfl⟩⟩
theorem dfc_of (X : K.In h) (G : h.Ns mainGlobals mg) (c : He.SaysD fa fn K) (x : Str) (st : Stmt) (h1 : mkD x st ∈ fn) (h2 : He.Fa.glo x ∈ fa) : Dfc K mg x st (He.codeOf K (x, none)) := by
  obtain ⟨fd, F⟩ := c.defs h1
  refine ⟨_, fd, F, He.glo_ok X G (c.facts h2), ?_⟩
  obtain ⟨oc, od, dV, kV, doc, pm, an, cdv, ct, osl, rfl, lk, hcd, _, _⟩ := F.ex
  obtain ⟨c0, rfl⟩ := He.codeIn_ref hcd
  exact congrArg Value.ref (He.codeOf_eq (p := (x, none)) lk rfl).symm
theorem law_ok (w : World) (X : K.In h) (G : h.Ns mainGlobals mg) (c : He.SaysX fa fn [] tf exK w h K) {f : Addr} (hfa : mg ("law" : Str) = some (.ref f)) : LamX.LawAtS PySem.Challenge.rw_anyscribe_k24_one_way_exactly w K C8.CX0 15 63 "script" mg f h := by
  have cd : He.SaysD fa fn K := c.t.d
  obtain ⟨fd, F⟩ := cd.defs (d := mkD "law" sLaw) (List.mem_of_getElem? (i := 30) rfl)
  have e := hfa.symm.trans (He.glo_ok X G (cd.facts (f := .glo "law") (List.mem_of_getElem? (i := 30) rfl)))
  cases e
  have in0 : (("next_deed", none) : He.Defn) ∈ tf := List.mem_cons_self ..
  have in1 : (("_law_deeds", none) : He.Defn) ∈ tf := List.mem_cons_of_mem _ (List.mem_cons_self ..)
  have two : ∀ (P : Addr × Addr → Prop), P (He.cT K ("next_deed", none)) → P (He.cT K ("_law_deeds", none)) → ∀ p ∈ [He.cT K ("next_deed", none), He.cT K ("_law_deeds", none)], P p := fun P a b p hp => by
    rcases List.mem_cons.mp hp with rfl | hp
    · exact a
    · rw [List.mem_singleton.mp hp]
      exact b
  have hn : (He.cT K ("next_deed", none)).2 ≠ (He.cT K ("_law_deeds", none)).2 := of_decide_eq_true c.more
  refine ⟨fd, [He.cT K ("next_deed", none), He.cT K ("_law_deeds", none)], spLaw K [((He.cT K ("next_deed", none)).2, fun _ _ => lamQN), ((He.cT K ("_law_deeds", none)).2, fun _ _ => lamQ)], two _ (c.empty _ in0) (c.empty _ in1), two _ (c.out _ in0) (c.out _ in1), two _ (PySem.W.codeHd_of_K X (c.hd _ in0)) (PySem.W.codeHd_of_K X (c.hd _ in1)), fun s u => ?_, fun H a ns hl _ hH hS => ?_, fun base Xb Gb TB => ?_⟩
  · exact FunD.bindsA (ps := ["script"]) F (fun _ _ _ _ _ _ us hl => match us, hl with | [_], _ => rfl) s [u] rfl
  · refine ⟨a, ns, rfl, hS, fun p hp => ?_, fun _ => rfl⟩
    rcases List.mem_cons.mp hp with rfl | hp
    · exact TabN.nil (hH _ (List.mem_cons_self ..))
    · rw [List.mem_singleton.mp hp]
      exact TabN.nil (hH _ (List.mem_cons_of_mem _ (List.mem_cons_self ..)))
  · have TB0 : TabB base mg (He.codeOf K ("next_deed", none)) (He.cT K ("next_deed", none)).2 := TB _ (List.mem_cons_self ..)
    have TB1 : TabB base mg (He.codeOf K ("_law_deeds", none)) (He.cT K ("_law_deeds", none)).2 := TB _ (List.mem_cons_of_mem _ (List.mem_cons_self ..))
    generalize (He.cT K ("next_deed", none)).2 = T0 at hn TB0 ⊢
    generalize (He.cT K ("_law_deeds", none)).2 = T1 at hn TB1 ⊢
    have X := Xb
    have G := Gb
    have c := cd
    have hb : Bl mg := bl_of X G c
    have u0 : ∀ p ∈ ([(T0, fun _ _ => lamQN), (T1, fun _ _ => lamQ)] : List NTab), p.1 = T0 → p.2 = fun _ _ => lamQN := fun p hp e => by
      rcases List.mem_cons.mp hp with rfl | hp
      · rfl
      · rw [List.mem_singleton.mp hp] at e
        exact absurd e.symm hn
    have u1 : ∀ p ∈ ([(T0, fun _ _ => lamQN), (T1, fun _ _ => lamQ)] : List NTab), p.1 = T1 → p.2 = fun _ _ => lamQ := fun p hp e => by
      rcases List.mem_cons.mp hp with rfl | hp
      · exact absurd e hn
      · rw [List.mem_singleton.mp hp]
    have i2 := c_is_letters (P := Pg) (w := w) (base := base) (df_of X G c "is_letters" sIsLetters (List.mem_of_getElem? (i := 0) rfl) (List.mem_of_getElem? (i := 0) rfl)) hb (gn_of X G c "MOST_LETTERS" 4 (List.mem_of_getElem? (i := 45) rfl))
    have i3 := c_is_text (P := Pg) (w := w) (base := base) (df_of X G c "is_text" sIsText (List.mem_of_getElem? (i := 1) rfl) (List.mem_of_getElem? (i := 1) rfl)) hb
    have i4 := c_is_text_within (df_of X G c "is_text_within" sIsTextWithin (List.mem_of_getElem? (i := 2) rfl) (List.mem_of_getElem? (i := 2) rfl)) hb i3
    have i5 := c_is_kind (df_of X G c "is_kind" sIsKind (List.mem_of_getElem? (i := 3) rfl) (List.mem_of_getElem? (i := 3) rfl)) hb (gn_of X G c "LONGEST_LEFT" 3 (List.mem_of_getElem? (i := 47) rfl)) (gn_of X G c "LONGEST_RIGHT" 1 (List.mem_of_getElem? (i := 48) rfl)) i4
    have i6 := c_is_lot (df_of X G c "is_lot" sIsLot (List.mem_of_getElem? (i := 4) rfl) (List.mem_of_getElem? (i := 4) rfl)) hb (gn_of X G c "MOST_KINDS" 12 (List.mem_of_getElem? (i := 49) rfl)) i5
    have i7 := c_check_letters (df_of X G c "check_letters" sCheckLetters (List.mem_of_getElem? (i := 5) rfl) (List.mem_of_getElem? (i := 5) rfl)) i2
    have i8 := c_check_text (df_of X G c "check_text" sCheckText (List.mem_of_getElem? (i := 6) rfl) (List.mem_of_getElem? (i := 6) rfl)) (gn_of X G c "LONGEST_TEXT" 40 (List.mem_of_getElem? (i := 46) rfl)) i4
    have i9 := c_check_kinds (df_of X G c "check_kinds" sCheckKinds (List.mem_of_getElem? (i := 7) rfl) (List.mem_of_getElem? (i := 7) rfl)) i6
    have j1 := c_check_mender (df_of X G c "check_mender" sCheckMender (List.mem_of_getElem? (i := 8) rfl) (List.mem_of_getElem? (i := 8) rfl)) hb i9
    have j2 := c_text_behind (P := Pg) (w := w) (base := base) (df_of X G c "text_behind" sTextBehind (List.mem_of_getElem? (i := 13) rfl) (List.mem_of_getElem? (i := 13) rfl)) hb
    have j3 := c_next_deed (P := Pg) (w := w) (Ts := [(T0, fun _ _ => lamQN), (T1, fun _ _ => lamQ)]) (List.mem_cons_self ..) u0 (dfc_of X G c "next_deed" sNextDeed (List.mem_of_getElem? (i := 14) rfl) (List.mem_of_getElem? (i := 14) rfl)) hb (He.free_ok X G (c.facts (List.mem_of_getElem? (i := 44) rfl))) TB0
    have j4 := c_mending_of (df_of X G c "mending_of" sMendingOf (List.mem_of_getElem? (i := 15) rfl) (List.mem_of_getElem? (i := 15) rfl)) hb j3 j2
    have j5 := c_check_lm (df_of X G c "check_letters_and_mender" sCheckLM (List.mem_of_getElem? (i := 17) rfl) (List.mem_of_getElem? (i := 17) rfl)) i7 j1
    have j6 := c_mended (df_of X G c "mended" sMended (List.mem_of_getElem? (i := 18) rfl) (List.mem_of_getElem? (i := 18) rfl)) j5 i8 j4
    have l1 := c_text_order (P := Pg) (w := w) (base := base) (df_of X G c "text_order" sTextOrder (List.mem_of_getElem? (i := 9) rfl) (List.mem_of_getElem? (i := 9) rfl)) hb
    have l2 := c_kind_order (df_of X G c "kind_order" sKindOrder (List.mem_of_getElem? (i := 11) rfl) (List.mem_of_getElem? (i := 11) rfl)) l1
    have l3 := c_deeds_on (df_of X G c "deeds_on" sDeedsOn (List.mem_of_getElem? (i := 12) rfl) (List.mem_of_getElem? (i := 12) rfl)) hb l2
    have l4 := c_textsw (P := Pg) (w := w) (base := base) (df_of X G c "texts_within" sTextsWithin (List.mem_of_getElem? (i := 10) rfl) (List.mem_of_getElem? (i := 10) rfl)) hb
    have l5 := c_least (df_of X G c "least_overlap" sLeast (List.mem_of_getElem? (i := 16) rfl) (List.mem_of_getElem? (i := 16) rfl)) hb (He.free_ok X G (c.facts (List.mem_of_getElem? (i := 44) rfl))) l4 l3 j2
    have m1 := c_overlap (df_of X G c "overlap" sOverlap (List.mem_of_getElem? (i := 20) rfl) (List.mem_of_getElem? (i := 20) rfl)) j5 l5
    have m2 := c_oneway (df_of X G c "is_one_way" sOneWay (List.mem_of_getElem? (i := 19) rfl) (List.mem_of_getElem? (i := 19) rfl)) j5 l5
    have k1 := c_taken (P := Pg) (w := w) (base := base) (df_of X G c "_law_taken" sTaken (List.mem_of_getElem? (i := 21) rfl) (List.mem_of_getElem? (i := 21) rfl)) hb
    have k2 := c_pick (df_of X G c "_law_pick" sPick (List.mem_of_getElem? (i := 22) rfl) (List.mem_of_getElem? (i := 22) rfl)) hb k1
    have k4 := c_text (df_of X G c "_law_text" sText (List.mem_of_getElem? (i := 24) rfl) (List.mem_of_getElem? (i := 24) rfl)) hb k1 k2
    have k5 := c_mender (df_of X G c "_law_mender" sMender (List.mem_of_getElem? (i := 28) rfl) (List.mem_of_getElem? (i := 28) rfl)) hb k1 k2 k4
    have k6 := c_behind (P := Pg) (w := w) (base := base) (df_of X G c "_law_behind" sBehind (List.mem_of_getElem? (i := 27) rfl) (List.mem_of_getElem? (i := 27) rfl)) hb
    have k7 := c_alike (P := Pg) (w := w) (base := base) (df_of X G c "_law_alike" sAlike (List.mem_of_getElem? (i := 23) rfl) (List.mem_of_getElem? (i := 23) rfl)) hb
    have k8 := c_texts (P := Pg) (w := w) (base := base) (df_of X G c "_law_texts" sTexts (List.mem_of_getElem? (i := 25) rfl) (List.mem_of_getElem? (i := 25) rfl)) hb
    have k9 := c_deedsL (P := Pg) (w := w) (Ts := [(T0, fun _ _ => lamQN), (T1, fun _ _ => lamQ)]) (List.mem_cons_of_mem _ (List.mem_cons_self ..)) u1 (dfc_of X G c "_law_deeds" sDeedsL (List.mem_of_getElem? (i := 26) rfl) (List.mem_of_getElem? (i := 26) rfl)) hb TB1
    have n1 := c_ends (df_of X G c "_law_ends" sEnds (List.mem_of_getElem? (i := 29) rfl) (List.mem_of_getElem? (i := 29) rfl)) hb k9 k6
    exact ok_law F hb k2 k5 k4 k7 k8 (n1 8) j6 m1 m2
end
end K24
open PySem PySem.W PyProof.Rows
theorem PySem.Challenge.cw_anyscribe_k24_one_way_exactly_holds : PySem.Challenge.rw_anyscribe_k24_one_way_exactly.Holds := by
  w_on; o_law
  refine HandSHeadRun.head_any (r := K24.Rw) (q := view K24.Rw.prog [45]) (H := K24.hk) (ob := K24.ob) (M := 3000) (loose := K24.loose) (d := HandSHeadRun.topDef K24.Rw.prog 45) (kwd := []) K24.ob_eq
    (by kernel_rfl) (fun s => by kernel_rfl) K24.run (by kernel_rfl) (by kernel_rfl) (by kernel_rfl) (by rfl) (by first | assumption | decide +kernel) (by decide +kernel) ⟨rfl, rfl, rfl, rfl, rfl, by decide +kernel⟩ ?hw ?hc
  case hw => w_witness2
  case hc =>
    refine LamX.walk_ofTsE (l := PySem.Challenge.rw_anyscribe_k24_one_way_exactly) (n := 63) (k := 15) (x := "script") (CX := fun _ => C8.CX0) rfl (by decide) (by kernel_rfl) ⟨rfl, by decide, by decide⟩ ?F (fun _ _ _ _ _ z => z)
    intro w mg fa h Y G hmg0
    obtain ⟨K, KX, c⟩ := Y
    have hmg : mg ("law" : PySem.Str) = some (.ref fa) := by
      have e : (HandSHeadRun.topDef K24.Rw.prog 45).name = ("law" : PySem.Str) := by kernel_rfl
      rw [← e]
      exact hmg0
    exact ⟨K, KX, K24.law_ok w KX G c hmg⟩
