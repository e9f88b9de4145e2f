package syntax

import (
	"strings"
	"testing"

	"erasure/api"
)

// P5.1: errors of the lexer come before all others.
func TestLexicalErrors(t *testing.T) {
	for marked, want := range map[string]api.Errno{
		"tables ^01":                         api.ErrSyntax,
		"tables ^?":                          api.ErrSyntax,
		`tables ^"`:                          api.ErrSyntax,
		"tables ^" + strings.Repeat("a", 17): api.ErrInvalid,
		"tables ^4294967297":                 api.ErrInvalid,
		`tables ^"` + strings.Repeat("a", 33) + `"`:     api.ErrInvalid,
		"tables " + strings.Repeat(".", 4095) + "^.":    api.ErrFull,
		"^" + strings.Repeat(" ", api.MaxSource) + "01": api.ErrFull,
		"table t ( a int ) ; ^T":                        api.ErrSyntax,
	} {
		checkError(t, marked, want)
	}
}

// P5.1: sources that do not follow the grammar. TestGrammar finds the offsets for many more.
func TestSyntaxErrors(t *testing.T) {
	const table = "table t ( a int ) ; "
	for _, marked := range []string{
		"^tables", "^;", "^1", `^"table"`, "table^", "table ^1", "table t ^;", "table t (^", "table t ( ^)", "table t ( a ^)", "table t ( a ^real )", `table t ( a ^"int" )`,
		"table t ( a int ^a )", "table t ( a int , ^) ;", "table t ( a int ) ^table", "table t ( a int )^", "table t ( a int ) # end^", "table t ( a int ) ; ^;", "table t ( a int ) ; ^t",
		"table t ( a int ) erase ^rows ;", "table t ( a int ) ^row ;", "table t ( a int ) retain ^x ;", "table t ( a int ) retain ^- 1 ;", "table t ( a int ) retain 1 ^erase row ;",
		"table t ( a int namespace ^, b int )", "table t ( a int references x ^namespace y )", "table t ( a int namespace x references y ^references y )", "table t ( a int duty ^x )", "table t ( a int duty 1 ^duty 2 )", "table t ( a int duty 1 ^personal by a )",
		"table t ( a int personal ^a )", "table t ( a int personal all ^a )", "table t ( a int personal by ^)", "table t ( a int personal by ^, b int )", "table t ( a int personal by ^7 )",
		"table t ( a int personal by duty ^3 )", "table t ( a int personal by b ^3 )", "table t ( a int personal by b duty 3 ^4 )", "table t ( a int personal by b duty 3 ^b )", "table t ( a int personal by b duty duty 3 ^duty )", "table t ( a int personal by b duty ^; )", "table t ( a int personal by a ^. b )",
		table + "view v ^;", table + "view v ^from", table + "view ^( select", table + "view v select ^;", table + "view v select from ^t ;", table + "view v select distinct ^( ;", table + "view v select distinct ^, x = a from t ;",
		table + "view v select distinct distinct ^distinct = a from t ;", table + "view v select distinct from ^t ;", table + "view v select x = a ^;", table + "view v select x = a , ^;", table + "view v select x = a ^with n = count from t ;",
		table + "view v select x ^a from t ;", table + "view v select x = a = b ^= a from t ;", table + "view v select x = a from ^;", table + "view v select x = a from t ^on a = a ;", table + "view v select x = a from t join ^;", table + "view v select x = a from t join t on ^;",
		table + "view v select x = a from t join t on a ^;", table + "view v select x = a from t join t on a = ^1 ;", table + "view v select x = a from t join t on left ^. a = a ;", table + "view v select x = a from t join t on a = a ^and a = a ;", table + "view v select x = a from t where ^;", table + "view v select x = a from t where a ^join t ;", table + "view v select x = a from t ^t ;",
		table + "view v select x = not from ^t ;", table + "view v select x = not ^. a from t ;", table + "view v select x = a ^a from t ;",
		table + "view v group ^;", table + "view v group x = 1 ^from t ;", table + "view v group x = 1 , ^( ;", table + "view v group with ^;", table + "view v group with ^( ;", table + "view v group with with ^with ;", table + "view v group with x = ^a from t ;", table + "view v group with x = count ^( a ) from t ;",
		table + "view v group with x = sum ^a from t ;", table + "view v group with x = sum ( ^) from t ;", table + "view v group with x = sum ( a ^, a ) from t ;", table + "view v group with x = count , ^;", table + "view v group distinct ^x = a with n = count from t ;", table + "view v group with x = count ^with y = count from t ;",
		table + "view v union ^;", table + "view v union t ^;", table + "view v union t ^, t ;", table + "view v union t t ^t ;", table + "view v union t t ^where a ;",
		table + "index i ^t ;", table + "index i on t ^a", table + "index i on t . ^1", table + "index i on t . a ^. a",
		table + "sketch s ^on", table + "sketch s count ^on", table + "sketch s count 1 ^on", table + "sketch s bloom 1 1 ^of", table + "sketch s bottom 1 1 on t ^;", table + "sketch s ^sum 1 1 on t . a ;",
		table + "cache c on t . a ^5", table + "cache c on t . a for ^;", table + "cache c ^of t for 5 ;", table + "release r of t ^. a", table + "release r of t above ^x", table + "release r ^on t above 1 ;", table + "stream s of ^1 ;", table + "stream s of t ^, t ;",
		table + "backup k of ^;", table + "backup k of keep ^1 ;", table + "backup k of t , ^7", table + "backup k of t ^;", table + "backup k of t keep ^- 1 ;", table + "backup k of t keep 1 ^, t ;",
	} {
		checkError(t, marked, api.ErrSyntax)
	}
}

// named is a valid source with marks before the names that are looked up: each mark is the sign ^, a capital letter that tells the order of the errors, and the sign ! for a store or ? for a column.
const named = `
cache c on ^Y!v . ^Z?y for 1 ;
index i on ^U!t . ^V?d ;
view v select distinct y = ^H?a + ( - ^I?a <= right . ^J?b ) , x = if ( ^K?a , left . ^L?a , right . ^M?b ) from ^F!t join ^G!u on ^N?a = ^O?b where ^P?a = a ;
table t ( a int namespace n personal by ^A?a , b int personal all by ^B?a ^C?a duty 3 , d text ) erase row ;
view w group k = x with c = count , n = sum ( ^R?y ) , m = max ( ^S?x ) from ^Q!v where ^T?x = 1 ;
sketch s bloom 8 1 on ^W!w . ^X?n ;
table u ( b int namespace n , c int personal by ^D?b ^E?b ) ;
release r of w above 1 ;`

// site is where a name stands, and the error if it is faulty.
type site struct {
	at, size int
	want     api.Errno
}

// sites returns a source without its marks, and the sites of the names in the order of their letters.
func sites(marked string) (string, []site) {
	parts := strings.Split(marked, "^")
	src, all := parts[0], make([]site, len(parts)-1)
	for _, part := range parts[1:] {
		x := site{len(src), strings.IndexByte(part, ' ') - 2, api.ErrName}
		if part[1] == '!' {
			x.want = api.ErrReference
		}
		all[part[0]-'A'] = x
		src += part[2:]
	}
	return src, all
}

// replaced returns a source with another name at a site.
func (x site) replaced(src string) string {
	return src[:x.at] + strings.Repeat("z", x.size) + src[x.at+x.size:]
}

// P5.1: the order of the errors of names: of any two faulty names, the first one by the chapter counts. They come before the errors of catalogue.Check, and after ErrSyntax.
func TestOrderOfNames(t *testing.T) {
	src, all := sites(named)
	if _, at, errno := Parse(src); errno != api.OK {
		t.Fatalf("P5.1: without a faulty name, Parse = %d, %d", at, errno)
	}
	const invalid = "table q ( a int duty 1 ) ; stream q of q ; release q of q above 0 ; backup q of q keep 0 ; "
	for i, first := range all {
		for _, second := range all[i:] {
			faulty := first.replaced(second.replaced(src))
			if _, at, errno := Parse(faulty); at != first.at || errno != first.want {
				t.Errorf("P5.1: Parse(%q) = %d, %d, want %d, %d", faulty, at, errno, first.at, first.want)
			}
		}
		checkError(t, first.replaced(src)+"^tables", api.ErrSyntax)
		faulty := first.replaced(src)
		checkError(t, invalid+faulty[:first.at]+"^"+faulty[first.at:], first.want)
	}
	checkError(t, "^"+invalid+src, api.ErrInvalid)
}

// P5.1: which stores and columns a name can name.
func TestNames(t *testing.T) {
	const tables = "table t ( a int , b text ) ; table u ( a int , c int ) ; "
	for _, x := range []struct {
		marked string
		want   api.Errno
	}{
		{"view v select x = y from ^t ;", api.ErrReference},
		{"table t ( a int personal by ^x ) ;", api.ErrName},
		{"table t ( a int personal by ^t ) ;", api.ErrName},
		{tables + "view v select x = 1 from ^v ;", api.ErrReference},
		{tables + "view v union t ^w ; view w union t t ;", api.ErrReference},
		{tables + "view v union ^w w ; view w union t t ;", api.ErrReference},
		{tables + "index i on t . b ; view v select x = 1 from ^i ;", api.ErrReference},
		{tables + "index i on ^i . b ;", api.ErrReference},
		{"index i on ^s . b ; stream s of t ;" + tables, api.ErrReference},
		{tables + "view v select x = ^c from t ;", api.ErrName},
		{tables + "view v select x = ^c from t join u ;", api.ErrName},
		{tables + "view v select x = ^x from t ;", api.ErrName},
		{tables + "view v select x = a , y = ^x from t ;", api.ErrName},
		{tables + "view v select x = right . ^a from t ;", api.ErrName},
		{tables + "view v select x = right . ^b from t join u ;", api.ErrName},
		{tables + "view v select x = left . ^c from t join u ;", api.ErrName},
		{tables + "view v select x = a from t join u on ^c = c ;", api.ErrName},
		{tables + "view v select x = a from t join u on a = ^b ;", api.ErrName},
		{tables + "view v select x = a from t join u on ^right = a ;", api.ErrName},
		{tables + "view v select x = a from t where ^x = 1 ;", api.ErrName},
		{tables + "view v group k = ^n with n = count from t ;", api.ErrName},
		{tables + "view v group k = a with n = count , m = sum ( ^n ) from t ;", api.ErrName},
		{tables + "view v group k = a with n = count from t ; view w select x = ^a from v ;", api.ErrName},
		{tables + "view v union t t ; view w select x = ^c from v ;", api.ErrName},
		{tables + "view v union t u ; index i on v . ^c ;", api.ErrName},
		{tables + "view v select x = ^c <= c from t where z ;", api.ErrName},
		{tables + "sketch s count 1 1 on t . ^x ;", api.ErrName},
		{tables + "cache s on t . ^t for 1 ;", api.ErrName},
		{"index i on t . ^x ; table t ( a int ) ;", api.ErrName},
		// The first store, or the first column, counts.
		{"view t select x = a from t ; table t ( a int ) ; table t ( b int ) ; index i on t . ^b ;", api.ErrName},
		{"view t select x = a from t ; table t ( a int ) ; index i on t . ^x ;", api.ErrName},
		{"table t ( a int ) ; view v select x = a from t ; view v select y = a from t ; index i on v . ^y ;", api.ErrName},
		{"table t ( a int ) ; view v select x = a from t ; view v select y = x from v ; view w select z = ^y from v ;", api.ErrName},
		{"view v select x = ^b from t ; table t ( a int ) ; table t ( b int ) ;", api.ErrName},
		{"^table t ( a int , a text , b int personal by a ) ; view v select x = a , x = b from t ; index i on v . x ;", api.ErrDuplicate},
		{"table t ( a int ) ; view v select x = a , x = ^x from t ; view w select y = x from v ;", api.ErrName},
	} {
		checkError(t, x.marked, x.want)
	}
}

// P5.1: the errors of catalogue.Check.
func TestCheckErrors(t *testing.T) {
	const table = "table t ( a int , b text ) ; "
	for marked, want := range map[string]api.Errno{
		// The number of a declaration is not that in the source.
		" cache c on t . a for 0 ; ^table t ( a int personal by a ) ;":                                   api.ErrInvalid,
		" ^cache c on t . a for 0 ; table t ( a int ) ;":                                                 api.ErrInvalid,
		"stream s of t ; backup k of t keep 0 ; ^stream s of t ; table t ( a int ) ;":                    api.ErrDuplicate,
		"backup k of t keep 0 ; release r of t above 1 ; ^view v select x = b + 1 from t ; " + table:     api.ErrType,
		"stream x of v ; ^index x on t . a ; sketch x count 0 0 on t . a ; " + table:                     api.ErrType,
		"sketch x count 1 1 on t . a ; ^sketch x count 1 1 on t . a ; cache x on t . a for 1 ; " + table: api.ErrDuplicate,
		"^index t on t . b ; " + table:                                                                   api.ErrDuplicate,
		// The errors that names can have there.
		table + "^stream s of v ;":                                  api.ErrReference,
		table + "view v select x = a from t ; ^stream s of v ;":     api.ErrReference,
		table + "^release r of t above 1 ;":                         api.ErrReference,
		table + "^release r of x above 1 ;":                         api.ErrReference,
		table + "^backup k of t , x keep 1 ;":                       api.ErrReference,
		table + "^backup k of t , t keep 1 ;":                       api.ErrDuplicate,
		"^table t ( a int references x ) ;":                         api.ErrReference,
		"^table t ( a int references t ) ;":                         api.ErrReference,
		table + "# the second\n ^table u ( a text references t ) ;": api.ErrType,
		// Others.
		table + "\t^" + table:          api.ErrDuplicate,
		"^table t ( a int , a int ) ;": api.ErrDuplicate,
		"^table t ( a int , b int , c int , d int , e int , f int , g int , h int , i int ) ;": api.ErrInvalid,
		"^table t ( a int ) retain 1048577 ;":                                                  api.ErrInvalid,
		"^table t ( a int duty 1 ) ;":                                                          api.ErrInvalid,
		"^table t ( a int , b int personal by a ) ;":                                           api.ErrInvalid,
		"^table t ( a int , b int namespace n personal by b duty 4 ) retain 3 ;":               api.ErrInvalid,
		table + "^view v select x = a , x = a from t ;":                                        api.ErrDuplicate,
		table + "^view v select x = a from t where b ;":                                        api.ErrType,
		table + "^view v group with n = sum ( b ) from t ;":                                    api.ErrType,
		table + "^view v select x = a from t join t on a = b ;":                                api.ErrType,
		table + "^view v select x = a + b from t ;":                                            api.ErrType,
		table + "^view v select x = a" + strings.Repeat(" + a", 32) + " from t ;":              api.ErrInvalid,
		table + "^view v select x = " + strings.Repeat("- ", 16) + "a from t ;":                api.ErrInvalid,
		table + "^index i on t . a ;":                                                          api.ErrType,
		table + "^sketch s bottom 1 2 on t . a ;":                                              api.ErrInvalid,
		table + "^cache c on t . a for 4294967296 ;":                                           api.ErrInvalid,
		table + "view g group with n = count from t ; ^release r of g above 1025 ;":            api.ErrInvalid,
		table + "^backup k of t keep 0 ;":                                                      api.ErrInvalid,
		// ErrFull is at the beginning of the source.
		"  " + strings.Repeat(table, api.MaxTables+1):                                               api.ErrFull,
		table + strings.Repeat("stream s of t ; ", api.MaxStores+1):                                 api.ErrFull,
		table + "cache c on t . a for 0 ; " + strings.Repeat("view v union t t ; ", api.MaxViews+1): api.ErrFull,
	} {
		checkError(t, marked, want)
	}
	checkError(t, " "+table+strings.Repeat("stream s of t ; ", api.MaxStores+1)+"cache c on t . ^x for 1 ;", api.ErrName)
}
