"""Forms: sums of products in which twice is nothing, and their tables."""

ALWAYS = ("",)


def added(one, other):
    # A product that stands in both stands twice in the sum, so it falls out.
    return tuple(sorted(set(one) ^ set(other)))


# Forms multiplied product by product cost up to 512 times 512 steps over nine
# letters; by tables, the number of rows is all that counts.
def multiplied(one, other):
    letters = letters_of(one + other)
    lefts = table_of(one, letters)
    rights = table_of(other, letters)
    return form_of(letters, [left and right for left, right in zip(lefts, rights)])


def joined(one, other):
    # The sum leaves out just the rows by which both are true.
    return added(added(one, other), multiplied(one, other))


def opposite(form):
    return added(form, ALWAYS)


def leads(one, other):
    # Forms are equal just where they are true by the same rows.
    return multiplied(one, other) == one


def letters_of(form):
    return "".join(sorted(set("".join(form))))


def worth(form, row):
    true_ones = [product for product in form if all([row[letter] for letter in product])]
    return len(true_ones) % 2 == 1


def row_of(letters, number):
    row = {}
    for place, letter in enumerate(letters):
        behind = len(letters) - 1 - place
        row[letter] = (number >> behind) % 2 == 1
    return row


def row_count(letters):
    count = 1
    for place in range(len(letters)):
        count = 2 * count
    return count


def table_of(form, letters):
    standing = dict([(product, True) for product in form])
    return summed([product in standing for product in products_over(letters)])


def form_of(letters, table):
    products = products_over(letters)
    return tuple(sorted([product for product, stands in zip(products, summed(table)) if stands]))


# In the order of the rows' numbers: at each number the product of the letters
# that are true by that row, so that products and rows share their places.
def products_over(letters):
    products = [""]
    for letter in reversed(letters):
        products = products + [letter + product for product in products]
    return products


# By a row, those products are true whose letters are all true by it: so the
# truth there is the sum over them. The same sums lead from the truths back to
# the products, as twice is nothing; so this serves both ways.
def summed(truths):
    if len(truths) == 1:
        return list(truths)
    half = len(truths) // 2
    low = summed(truths[:half])
    high = summed(truths[half:])
    return low + [left != right for left, right in zip(low, high)]
