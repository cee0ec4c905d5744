package schema_test

import (
	"math/rand"
	"slices"
	"strconv"
	"strings"
	"testing"

	"cardbox/schema"
)

// chapter is the document's table of the types and their members, to the
// letter: name, form, Arg; ! must; = default.
const chapter = `
Card: addresses 14 Address; anniversaries 14 Anniversary; created 7; emails 14 EmailAddress; keywords 16; kind 11 application device group individual location org = individual; language 10; links 14 Link; media 14 Media; members 16; name 12 Name; nicknames 14 Nickname; notes 14 Note; onlineServices 14 OnlineService; organizations 14 Organization; phones 14 Phone; preferredLanguages 14 LanguagePref; prodId 1; relatedTo 15 Relation; titles 14 Title; uid 2 !; updated 7; version 11 1.0 !
Address: components 13 AddressComponent; contexts 17 billing delivery private work; coordinates 8; countryCode 1; defaultSeparator 1; full 1; isOrdered 3 = false; pref 5; timeZone 1
AddressComponent: kind 11 apartment block building country direction district floor landmark locality name number postOfficeBox postcode region room separator subdistrict !; value 1 !
Anniversary: date 18 !; kind 11 birth death wedding !
EmailAddress: address 1 !; contexts 17 private work; label 1; pref 5
LanguagePref: contexts 17 private work; language 10 !; pref 5
Link: contexts 17 private work; kind 11 contact; label 1; mediaType 9; pref 5; uri 8 !
Media: contexts 17 private work; kind 11 logo photo sound !; label 1; mediaType 9; pref 5; uri 8 !
Name: components 13 NameComponent; defaultSeparator 1; full 1; isOrdered 3 = false
NameComponent: kind 11 credential generation given given2 separator surname surname2 title !; value 1 !
Nickname: contexts 17 private work; name 1 !; pref 5
Note: created 7; note 1 !
OnlineService: contexts 17 private work; label 1; pref 5; service 1; uri 8; user 1
OrgUnit: name 1 !; sortAs 1
Organization: contexts 17 private work; name 1; sortAs 1; units 13 OrgUnit
PartialDate: day 4; month 4; year 4
Phone: contexts 17 private work; features 17 fax main-number mobile pager text textphone video voice; label 1; number 1 !; pref 5
Relation: relation 17 acquaintance agent child co-resident co-worker colleague contact crush date emergency friend kin me met muse neighbor parent sibling spouse sweetheart
Timestamp: utc 7 !
Title: kind 11 role title = title; name 1 !; organizationId 6
`

// row is a type, and its members.
type row struct {
	of    string
	props []schema.Prop
}

// rows reads the chapter's table.
func rows(t *testing.T) []row {
	t.Helper()
	var all []row
	for line := range strings.SplitSeq(strings.Trim(chapter, "\n"), "\n") {
		of, members, ok := strings.Cut(line, ": ")
		if !ok {
			t.Fatalf("no type in %q", line)
		}
		r := row{of: of}
		for member := range strings.SplitSeq(members, "; ") {
			r.props = append(r.props, propOf(t, member))
		}
		all = append(all, r)
	}
	return all
}

// propOf reads a member of the chapter's table.
func propOf(t *testing.T, member string) schema.Prop {
	t.Helper()
	var p schema.Prop
	member, p.Must = strings.CutSuffix(member, " !")
	member, p.Default, _ = strings.Cut(member, " = ")
	name, rest, _ := strings.Cut(member, " ")
	form, arg, _ := strings.Cut(rest, " ")
	n, err := strconv.Atoi(form)
	if err != nil {
		t.Fatalf("no form in %q", member)
	}
	p.Name, p.Form, p.Arg = name, n, arg
	return p
}

// checkProps holds a type's members against what is wanted.
func checkProps(t *testing.T, of string, want []schema.Prop) {
	t.Helper()
	got := schema.Props(of)
	if len(got) != len(want) {
		t.Fatalf("Props(%.60q) are %d; want %d", of, len(got), len(want))
	}
	for i, p := range want {
		if got[i] != p {
			t.Fatalf("Props(%.60q)[%d] = %+v; want %+v", of, i, got[i], p)
		}
	}
}

// checkFind holds Find against what is wanted.
func checkFind(t *testing.T, of, name string, want schema.Prop) {
	t.Helper()
	if got, ok := schema.Find(of, name); !ok || got != want {
		t.Fatalf("Find(%q, %q) = %+v, %t; want %+v", of, name, got, ok, want)
	}
}

// checkNone holds Find of a member that isn't there against the zero Prop and
// false.
func checkNone(t *testing.T, of, name string) {
	t.Helper()
	if got, ok := schema.Find(of, name); ok || got != (schema.Prop{}) {
		t.Fatalf("Find(%.60q, %.60q) = %+v, %t; want none", of, name, got, ok)
	}
}

// checkNoType holds Props and Find of what is no type against none.
func checkNoType(t *testing.T, of string) {
	t.Helper()
	checkProps(t, of, nil)
	for _, name := range []string{"", "kind", "name", "uid", "contexts", "pref", "components", "value", "utc", "@type", of} {
		checkNone(t, of, name)
	}
}

// checkAll holds all that is told of the types against the chapter's table.
func checkAll(t *testing.T, all []row) {
	t.Helper()
	var types []string
	for _, r := range all {
		types = append(types, r.of)
		checkProps(t, r.of, r.props)
		for _, p := range r.props {
			checkFind(t, r.of, p.Name, p)
		}
	}
	if got := schema.Types(); !slices.Equal(got, types) {
		t.Fatalf("Types() = %q; want %q", got, types)
	}
}

// near calls f with texts that differ a little from one.
func near(s string, f func(string)) {
	f(strings.ToLower(s[:1]) + strings.ToUpper(s[1:]))
	for _, x := range []string{" ", "a", "s", "S", "x", "Z", "1", "-", ":", "@", "\x00", "\n", "\t", "\x7f", "\x80", "\xff", "\u00e9", "\u00a0", s} {
		f(x + s)
		f(s + x)
		for i := range len(s) {
			f(s[:i] + x + s[i:])
			f(s[:i] + x + s[i+1:])
		}
	}
	for i := range len(s) {
		f(s[:i])
		f(s[i+1:])
		f(s[:i] + s[i+1:])
		f(s[:i] + string([]byte{s[i] ^ 0x20}) + s[i+1:])
		f(s[:i] + string([]byte{s[i] | 0x80}) + s[i+1:])
	}
}

// P13.1: the types, in their order.
func TestTypes(t *testing.T) {
	want := []string{"Card", "Address", "AddressComponent", "Anniversary", "EmailAddress", "LanguagePref", "Link", "Media", "Name", "NameComponent", "Nickname", "Note", "OnlineService", "OrgUnit", "Organization", "PartialDate", "Phone", "Relation", "Timestamp", "Title"}
	if got := schema.Types(); !slices.Equal(got, want) {
		t.Fatalf("Types() = %q; want %q", got, want)
	}
	if len(want) != 20 || !slices.IsSorted(want[1:]) {
		t.Fatal("the test's own types")
	}
}

// P13.1: each member of each type as the chapter's table has it.
func TestTable(t *testing.T) {
	checkAll(t, rows(t))
}

// P13.1: how many members each type has; that they rise, by bytes, each once.
func TestCounts(t *testing.T) {
	counts := []int{23, 9, 2, 2, 4, 3, 6, 6, 4, 2, 3, 2, 6, 2, 4, 3, 5, 1, 1, 3}
	all := 0
	for i, of := range schema.Types() {
		props := schema.Props(of)
		if len(props) != counts[i] {
			t.Errorf("%s has %d members; want %d", of, len(props), counts[i])
		}
		for j := 1; j < len(props); j++ {
			if props[j-1].Name >= props[j].Name {
				t.Errorf("%s: %s stands ahead of %s", of, props[j-1].Name, props[j].Name)
			}
		}
		all += len(props)
	}
	if all != 91 {
		t.Errorf("%d members; want 91", all)
	}
}

// P13.1: which forms there are, and what goes with each.
func TestForms(t *testing.T) {
	types := schema.Types()
	var forms [19]int
	for _, of := range types {
		for _, p := range schema.Props(of) {
			if p.Form < 1 || p.Form > 18 {
				t.Fatalf("%s of %s has the form %d", p.Name, of, p.Form)
			}
			forms[p.Form]++
			words := strings.Split(p.Arg, " ")
			switch p.Form {
			case 11, 17:
				for i, w := range words {
					if w == "" || i > 0 && words[i-1] >= w {
						t.Errorf("%s of %s has the words %q", p.Name, of, p.Arg)
					}
				}
			case 12, 13, 14, 15:
				if !slices.Contains(types, p.Arg) {
					t.Errorf("%s of %s is of %q", p.Name, of, p.Arg)
				}
			default:
				if p.Arg != "" {
					t.Errorf("%s of %s has the Arg %q", p.Name, of, p.Arg)
				}
			}
			if p.Default != "" && (p.Must || p.Form != 3 && p.Form != 11 || p.Form == 11 && !slices.Contains(words, p.Default)) {
				t.Errorf("%s of %s has the default %q", p.Name, of, p.Default)
			}
		}
	}
	if want := [19]int{0, 25, 1, 2, 3, 8, 1, 4, 4, 2, 2, 8, 1, 3, 12, 1, 2, 11, 1}; forms != want {
		t.Errorf("forms: %v; want %v", forms, want)
	}
}

// P13.1: which members must be there, and which have a default: no other ones.
func TestMustAndDefault(t *testing.T) {
	var must, defaults []string
	for _, of := range schema.Types() {
		for _, p := range schema.Props(of) {
			if p.Must {
				must = append(must, of+"."+p.Name)
			}
			if p.Default != "" {
				defaults = append(defaults, of+"."+p.Name+"="+p.Default)
			}
		}
	}
	wantMust := []string{"Card.uid", "Card.version", "AddressComponent.kind", "AddressComponent.value", "Anniversary.date", "Anniversary.kind", "EmailAddress.address", "LanguagePref.language", "Link.uri", "Media.kind", "Media.uri", "NameComponent.kind", "NameComponent.value", "Nickname.name", "Note.note", "OrgUnit.name", "Phone.number", "Timestamp.utc", "Title.name"}
	if !slices.Equal(must, wantMust) {
		t.Errorf("must: %q; want %q", must, wantMust)
	}
	wantDefaults := []string{"Card.kind=individual", "Address.isOrdered=false", "Name.isOrdered=false", "Title.kind=title"}
	if !slices.Equal(defaults, wantDefaults) {
		t.Errorf("defaults: %q; want %q", defaults, wantDefaults)
	}
}

// P13.1: members that look alike in several types, and aren't.
func TestAlike(t *testing.T) {
	two := "private work"
	for _, x := range []struct {
		of   string
		want schema.Prop
	}{
		{"Address", schema.Prop{Name: "contexts", Form: 17, Arg: "billing delivery private work"}},
		{"EmailAddress", schema.Prop{Name: "contexts", Form: 17, Arg: two}},
		{"LanguagePref", schema.Prop{Name: "contexts", Form: 17, Arg: two}},
		{"Link", schema.Prop{Name: "contexts", Form: 17, Arg: two}},
		{"Media", schema.Prop{Name: "contexts", Form: 17, Arg: two}},
		{"Nickname", schema.Prop{Name: "contexts", Form: 17, Arg: two}},
		{"OnlineService", schema.Prop{Name: "contexts", Form: 17, Arg: two}},
		{"Organization", schema.Prop{Name: "contexts", Form: 17, Arg: two}},
		{"Phone", schema.Prop{Name: "contexts", Form: 17, Arg: two}},
		{"Card", schema.Prop{Name: "kind", Form: 11, Arg: "application device group individual location org", Default: "individual"}},
		{"Anniversary", schema.Prop{Name: "kind", Form: 11, Arg: "birth death wedding", Must: true}},
		{"Link", schema.Prop{Name: "kind", Form: 11, Arg: "contact"}},
		{"Media", schema.Prop{Name: "kind", Form: 11, Arg: "logo photo sound", Must: true}},
		{"Title", schema.Prop{Name: "kind", Form: 11, Arg: "role title", Default: "title"}},
		{"Card", schema.Prop{Name: "name", Form: 12, Arg: "Name"}},
		{"Nickname", schema.Prop{Name: "name", Form: 1, Must: true}},
		{"OrgUnit", schema.Prop{Name: "name", Form: 1, Must: true}},
		{"Organization", schema.Prop{Name: "name", Form: 1}},
		{"Title", schema.Prop{Name: "name", Form: 1, Must: true}},
		{"Card", schema.Prop{Name: "language", Form: 10}},
		{"LanguagePref", schema.Prop{Name: "language", Form: 10, Must: true}},
		{"Link", schema.Prop{Name: "uri", Form: 8, Must: true}},
		{"Media", schema.Prop{Name: "uri", Form: 8, Must: true}},
		{"OnlineService", schema.Prop{Name: "uri", Form: 8}},
		{"Address", schema.Prop{Name: "components", Form: 13, Arg: "AddressComponent"}},
		{"Name", schema.Prop{Name: "components", Form: 13, Arg: "NameComponent"}},
		{"Card", schema.Prop{Name: "version", Form: 11, Arg: "1.0", Must: true}},
		{"Card", schema.Prop{Name: "keywords", Form: 16}},
		{"Card", schema.Prop{Name: "members", Form: 16}},
		{"Card", schema.Prop{Name: "created", Form: 7}},
		{"Note", schema.Prop{Name: "created", Form: 7}},
		{"Timestamp", schema.Prop{Name: "utc", Form: 7, Must: true}},
		{"Relation", schema.Prop{Name: "relation", Form: 17, Arg: "acquaintance agent child co-resident co-worker colleague contact crush date emergency friend kin me met muse neighbor parent sibling spouse sweetheart"}},
	} {
		checkFind(t, x.of, x.want.Name, x.want)
	}
}

// P13.1: what is no type has no members.
func TestNoTypes(t *testing.T) {
	types := schema.Types()
	for _, of := range types {
		near(of, func(s string) {
			if !slices.Contains(types, s) {
				checkNoType(t, s)
			}
		})
		for _, s := range []string{strings.ToLower(of), strings.ToUpper(of), of + " ", " " + of, of + "\x00", of + of, of + ":", "@" + of} {
			checkNoType(t, s)
		}
		for _, other := range types {
			checkNoType(t, of+" "+other)
		}
	}
	for c := range 256 {
		checkNoType(t, string([]byte{byte(c)}))
	}
	for _, s := range []string{"", " ", "zz", "card", "CARD", "Cards", "ContactCard", "JSCard", "Book", "AddressBook", "Date", "Author", "CryptoKey", "Directory", "SchedulingAddress", "Calendar", "Prop", "@type", "kind", "Organisation", "Orgunit", "Email", "Org", "\u00c7ard", "C\u0430rd", "\uff23ard", "Card\u00a0", "\xff\xfe", strings.Repeat("Card", 1<<18), strings.Join(types, " ")} {
		checkNoType(t, s)
	}
}

// P13.1: a type has the members of its own alone.
func TestNoMembers(t *testing.T) {
	all := rows(t)
	for _, r := range all {
		own := map[string]int{}
		for _, p := range r.props {
			own[p.Name] = 1
		}
		checkOthers := func(name string) {
			if own[name] == 0 {
				checkNone(t, r.of, name)
			}
		}
		for _, other := range all {
			checkOthers(other.of)
			for _, p := range other.props {
				checkOthers(p.Name)
				checkOthers(p.Arg)
			}
		}
		for _, p := range r.props {
			near(p.Name, checkOthers)
		}
		for c := range 256 {
			checkNone(t, r.of, string([]byte{byte(c)}))
		}
		for _, name := range []string{"", " ", "@type", "color", "id", "addressBookIds", "x:y", "example.com:foo", "extra", "vCardProps", "calendars", "\u00e9", "\xff", strings.Repeat("kind", 1<<18)} {
			checkNone(t, r.of, name)
		}
	}
}

// P13.2: what is answered may be written over, its spare room too, and is told
// as before by the next call.
func TestNewMemory(t *testing.T) {
	all := rows(t)
	junk := schema.Prop{Name: "junk", Form: 99, Arg: "junk", Must: true, Default: "junk"}
	for _, r := range all {
		held := make([][]schema.Prop, len(all))
		for i, other := range all {
			held[i] = schema.Props(other.of)
		}
		types := schema.Types()
		props := schema.Props(r.of)
		for i := range props[:cap(props)] {
			props[:cap(props)][i] = junk
		}
		other := schema.Types()
		for i := range other[:cap(other)] {
			other[:cap(other)][i] = "junk"
		}
		checkAll(t, all)
		for i, other := range all {
			if !slices.Equal(held[i], other.props) || types[i] != other.of {
				t.Fatalf("what was told of %s is %+v, behind a change of what was told of %s", other.of, held[i], r.of)
			}
		}
	}
}

// P13.2: each member of each type is written over by itself, and all types,
// those that share it among them, are told as before.
func TestNewMemoryOfMembers(t *testing.T) {
	all := rows(t)
	for _, r := range all {
		for i := range r.props {
			props := schema.Props(r.of)
			props[i] = schema.Prop{}
			_ = append(props[:i], schema.Prop{Name: "x"})
			checkAll(t, all)
		}
		p, _ := schema.Find(r.of, r.props[0].Name)
		p.Name, p.Arg, p.Form = "x", "y", 0
		checkAll(t, all)
	}
	for i := range schema.Types() {
		types := schema.Types()
		types[i] = ""
		checkAll(t, all)
	}
	props := schema.Props("zz")
	_ = append(props, schema.Prop{Name: "x"})
	checkNoType(t, "zz")
}

// P1: all calls end, and none panics, whatever the texts are.
func TestByChance(t *testing.T) {
	all := rows(t)
	random := rand.New(rand.NewSource(131))
	some := func() string {
		r := all[random.Intn(len(all))]
		s := []byte(r.of)
		if random.Intn(2) == 0 {
			s = []byte(r.props[random.Intn(len(r.props))].Name)
		}
		for range random.Intn(3) {
			s[random.Intn(len(s))] = byte(random.Intn(256))
		}
		return string(s[:len(s)-random.Intn(2)*random.Intn(len(s))])
	}
	found := 0
	for range 100000 {
		of, name := some(), some()
		want := schema.Prop{}
		for _, r := range all {
			if i := slices.IndexFunc(r.props, func(p schema.Prop) bool { return p.Name == name }); r.of == of && i >= 0 {
				want = r.props[i]
			}
		}
		if want.Name == "" {
			checkNone(t, of, name)
			continue
		}
		found++
		checkFind(t, of, name, want)
	}
	if found < 100 {
		t.Errorf("%d members were found", found)
	}
}

// The section 'Examples'.
func TestExamples(t *testing.T) {
	checkFind(t, "Title", "kind", schema.Prop{Name: "kind", Form: 11, Arg: "role title", Default: "title"})
	checkNone(t, "Card", "color")
}
